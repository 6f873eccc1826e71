package network

import (
	"math"
	"reflect"
	"slices"
	"strconv"
	"strings"
	"testing"

	"batchline/api"
)

// exampleText is the text of the chapter's example.
const exampleText = "network 50000 10\nnode a\nnode b\nsegment s a b 100 1 50\npoint 0 0 900000\npoint 100 20 900000\nport in a 300000\nport out b 0\nstation p a 500000 200 100000"

// example is the network of the chapter's example.
func example() api.Network {
	return api.Network{
		Nodes: []string{"a", "b"},
		Segments: []api.Segment{{
			Name: "s", From: 0, To: 1, Capacity: 100, Resist: 1, Wave: 50,
			Points: []api.Point{{At: 0, Height: 0, Limit: 900000}, {At: 100, Height: 20, Limit: 900000}},
		}},
		Ports:    []api.Port{{Name: "in", Node: 0, Pressure: 300000}, {Name: "out", Node: 1, Pressure: 0}},
		Stations: []api.Station{{Name: "p", Node: 0, Head: 500000, Fall: 200, Suction: 100000}},
		Vapour:   50000,
		Settle:   10,
	}
}

// named is a name of MaxName bytes with a number.
func named(first string, i int) string {
	n := strconv.Itoa(i)
	return first + strings.Repeat("-", api.MaxName-len(first)-len(n)) + n
}

// full is the greatest network: as much of everything, and numbers as long, as there can be.
func full() api.Network {
	n := api.Network{Vapour: -100000, Settle: 100}
	for i := range api.MaxNodes {
		n.Nodes = append(n.Nodes, named("n", i))
	}
	for i := range api.MaxSegments {
		s := api.Segment{Name: named("s", i), From: i % api.MaxNodes, To: (i + 1) % api.MaxNodes, Capacity: api.MaxCapacity, Resist: 1000, Wave: 100000}
		for at := range api.MaxPoints {
			s.Points = append(s.Points, api.Point{At: api.MaxCapacity - api.MaxPoints + 1 + at, Height: -500, Limit: api.MaxPressure})
		}
		s.Points[0].At = 0
		n.Segments = append(n.Segments, s)
	}
	for i := range api.MaxPorts {
		n.Ports = append(n.Ports, api.Port{Name: named("p", i), Node: i, Pressure: api.MaxPressure})
	}
	for i := range api.MaxStations {
		n.Stations = append(n.Stations, api.Station{Name: named("st", i), Node: i, Head: api.MaxPressure, Fall: 100000, Suction: api.MaxPressure})
	}
	return n
}

// least is the smallest network.
func least() api.Network { return api.Network{Nodes: []string{"a"}} }

// change is the example with a change.
func change(f func(n *api.Network)) api.Network {
	n := example()
	f(&n)
	return n
}

// equal reports whether two networks are equal; a list that is nil is an empty one.
func equal(a, b api.Network) bool {
	return slices.Equal(a.Nodes, b.Nodes) && slices.Equal(a.Ports, b.Ports) && slices.Equal(a.Stations, b.Stations) &&
		a.Vapour == b.Vapour && a.Settle == b.Settle &&
		slices.EqualFunc(a.Segments, b.Segments, func(s, t api.Segment) bool {
			same := slices.Equal(s.Points, t.Points)
			s.Points, t.Points = nil, nil
			return same && reflect.DeepEqual(s, t)
		})
}

// expectError checks that Check and Format have an error.
func expectError(t *testing.T, name string, n api.Network, want api.Errno) {
	t.Helper()
	if e := Check(n); e != want {
		t.Errorf("%s: Check = %d, want %d", name, e, want)
	}
	if text, e := Format(n); text != "" || e != want {
		t.Errorf("%s: Format = %.100q, %d, want the error %d", name, text, e, want)
	}
}

// expectOK checks that a network is valid, and is the one that is read from its text.
func expectOK(t *testing.T, name string, n api.Network) {
	t.Helper()
	if e := Check(n); e != api.OK {
		t.Errorf("%s: Check = %d", name, e)
	}
	text, e := Format(n)
	if e != api.OK {
		t.Errorf("%s: Format has the error %d", name, e)
	}
	if got, line, e := Parse(text); !equal(got, n) || line != 0 || e != api.OK {
		t.Errorf("%s: Parse(%.300q) = %v, %d, %d, want %v", name, text, got, line, e, n)
	}
}

// P12.1: networks of all sizes.
func TestCheckSizes(t *testing.T) {
	expectOK(t, "example", example())
	expectOK(t, "least", least())
	expectOK(t, "full", full())
	expectOK(t, "no segments", change(func(n *api.Network) { n.Segments = nil }))
	expectOK(t, "empty lists", change(func(n *api.Network) {
		n.Segments, n.Ports, n.Stations = []api.Segment{}, []api.Port{}, []api.Station{}
	}))
	expectOK(t, "one name for each kind", api.Network{
		Nodes:    []string{"a", "b"},
		Segments: []api.Segment{{Name: "a", From: 1, To: 0, Capacity: 1, Points: []api.Point{{}, {At: 1}}}},
		Ports:    []api.Port{{Name: "a"}, {Name: "b"}},
		Stations: []api.Station{{Name: "a"}, {Name: "b", Node: 1}},
	})
	expectOK(t, "two segments between two nodes", change(func(n *api.Network) {
		n.Segments = append(n.Segments, n.Segments[0], n.Segments[0])
		n.Segments[1].Name, n.Segments[2].Name = "s2", "s3"
		n.Segments[2].From, n.Segments[2].To = 1, 0
	}))
	expectOK(t, "two ports at a node", change(func(n *api.Network) { n.Ports[1].Node = 0 }))
}

// P12.1: a network has nodes, and of nothing too many; a segment has from 2 to MaxPoints points.
func TestCheckLimits(t *testing.T) {
	expectError(t, "nothing", api.Network{}, api.ErrLimit)
	expectError(t, "no nodes", change(func(n *api.Network) { n.Nodes = nil }), api.ErrLimit)
	over := full()
	over.Nodes = append(over.Nodes, "one-more")
	expectError(t, "nodes", over, api.ErrLimit)
	over = full()
	over.Segments = append(over.Segments, example().Segments...)
	expectError(t, "segments", over, api.ErrLimit)
	over = full()
	over.Ports = append(over.Ports, example().Ports[0])
	expectError(t, "ports", over, api.ErrLimit)
	over = full()
	over.Stations = append(over.Stations, api.Station{Name: "one-more", Node: 20})
	expectError(t, "stations", over, api.ErrLimit)
	for _, points := range []int{0, 1, api.MaxPoints + 1, 1000} {
		for _, i := range []int{0, 7, api.MaxSegments - 1} {
			n := full()
			n.Segments[i].Points = make([]api.Point, points)
			for at := range points {
				n.Segments[i].Points[at].At = at
			}
			n.Segments[i].Capacity = max(points-1, 1)
			expectError(t, strconv.Itoa(points)+" points", n, api.ErrLimit)
		}
	}
	for points := 2; points <= api.MaxPoints; points++ {
		n := full()
		n.Segments[4].Points = slices.Delete(n.Segments[4].Points, 1, 1+api.MaxPoints-points)
		expectOK(t, strconv.Itoa(points)+" points", n)
	}
}

// P12.1: each of the names, and what is none.
func TestCheckNames(t *testing.T) {
	fields := func(n *api.Network) []*string {
		return []*string{&n.Nodes[0], &n.Nodes[1], &n.Segments[0].Name, &n.Ports[0].Name, &n.Ports[1].Name, &n.Stations[0].Name}
	}
	for field := range 6 {
		for _, s := range []string{"c", "z", "tank-7", "z-", "abcdefghijkl", "network", "point"} {
			expectOK(t, s, change(func(n *api.Network) { *fields(n)[field] = s }))
		}
		for _, s := range []string{"", "abcdefghijklm", "7", "-a", "A", "a b", "a_b", "a\n", "#a", "é", strings.Repeat("a", 100000)} {
			expectError(t, s, change(func(n *api.Network) { *fields(n)[field] = s }), api.ErrForm)
		}
	}
}

// P12.1: two of a kind have one name, or two stations one node.
func TestCheckTwice(t *testing.T) {
	for name, f := range map[string]func(n *api.Network){
		"nodes":           func(n *api.Network) { n.Nodes[1] = "a" },
		"nodes not used":  func(n *api.Network) { n.Nodes = []string{"a", "b", "c", "d", "c"} },
		"segments":        func(n *api.Network) { n.Segments = append(n.Segments, n.Segments[0]) },
		"ports":           func(n *api.Network) { n.Ports[1].Name = "in" },
		"station names":   func(n *api.Network) { n.Stations = append(n.Stations, api.Station{Name: "p", Node: 1}) },
		"station nodes":   func(n *api.Network) { n.Stations = append(n.Stations, api.Station{Name: "q", Node: 0}) },
		"no such node":    func(n *api.Network) { n.Stations = []api.Station{{Name: "p", Node: 2}, {Name: "q", Node: 2}} },
		"a negative node": func(n *api.Network) { n.Stations = []api.Station{{Name: "p", Node: -1}, {Name: "q", Node: -1}} },
		"the first and the last": func(n *api.Network) {
			n.Stations = []api.Station{{Name: "p", Node: 1}, {Name: "q", Node: 0}, {Name: "r", Node: 1}}
		},
	} {
		expectError(t, name, change(f), api.ErrTwice)
	}
	for kind, f := range []func(n *api.Network){
		func(n *api.Network) { n.Nodes[api.MaxNodes-1] = n.Nodes[3] },
		func(n *api.Network) { n.Segments[api.MaxSegments-1].Name = n.Segments[3].Name },
		func(n *api.Network) { n.Ports[api.MaxPorts-1].Name = n.Ports[3].Name },
		func(n *api.Network) { n.Stations[api.MaxStations-1].Name = n.Stations[3].Name },
		func(n *api.Network) { n.Stations[api.MaxStations-1].Node = n.Stations[3].Node },
	} {
		n := full()
		f(&n)
		expectError(t, "full, kind "+strconv.Itoa(kind), n, api.ErrTwice)
	}
}

// P12.1: each index of a node.
func TestCheckUnknown(t *testing.T) {
	fields := func(n *api.Network) []*int {
		return []*int{&n.Segments[0].From, &n.Segments[0].To, &n.Ports[0].Node, &n.Ports[1].Node, &n.Stations[0].Node}
	}
	for field := range 5 {
		for _, i := range []int{-1, -2, 2, 24, 1 << 32, math.MinInt, math.MaxInt} {
			expectError(t, strconv.Itoa(field)+": "+strconv.Itoa(i), change(func(n *api.Network) { *fields(n)[field] = i }), api.ErrUnknown)
		}
	}
	expectError(t, "both ends", change(func(n *api.Network) { n.Segments[0].From, n.Segments[0].To = 2, 2 }), api.ErrUnknown)
}

// ranges are the numbers of a network with a range.
var ranges = []struct {
	name        string
	least, most int
	field       func(n *api.Network) *int
}{
	{"Resist", 0, 1000, func(n *api.Network) *int { return &n.Segments[0].Resist }},
	{"Wave", 0, 100000, func(n *api.Network) *int { return &n.Segments[0].Wave }},
	{"Height", -500, 5000, func(n *api.Network) *int { return &n.Segments[0].Points[0].Height }},
	{"Height of the last point", -500, 5000, func(n *api.Network) *int { return &n.Segments[0].Points[1].Height }},
	{"Limit", 0, 100000000, func(n *api.Network) *int { return &n.Segments[0].Points[0].Limit }},
	{"Limit of the last point", 0, 100000000, func(n *api.Network) *int { return &n.Segments[0].Points[1].Limit }},
	{"Pressure", 0, 100000000, func(n *api.Network) *int { return &n.Ports[0].Pressure }},
	{"Pressure of the last port", 0, 100000000, func(n *api.Network) *int { return &n.Ports[1].Pressure }},
	{"Head", 0, 100000000, func(n *api.Network) *int { return &n.Stations[0].Head }},
	{"Fall", 0, 100000, func(n *api.Network) *int { return &n.Stations[0].Fall }},
	{"Suction", 0, 100000000, func(n *api.Network) *int { return &n.Stations[0].Suction }},
	{"Vapour", -100000, 100000000, func(n *api.Network) *int { return &n.Vapour }},
	{"Settle", 0, 100, func(n *api.Network) *int { return &n.Settle }},
}

// P12.1: the ends of all ranges, beyond them, and the ends of their type.
func TestCheckRanges(t *testing.T) {
	for _, x := range ranges {
		for _, v := range []int{x.least, x.least + 1, 0, 1, 7, x.most - 1, x.most} {
			expectOK(t, x.name, change(func(n *api.Network) { *x.field(n) = v }))
		}
		for _, v := range []int{x.least - 1, x.most + 1, math.MinInt, math.MaxInt, 1 << 32, -1 << 32} {
			expectError(t, x.name, change(func(n *api.Network) { *x.field(n) = v }), api.ErrInvalid)
		}
	}
}

// P12.1: capacities, and profiles that end there.
func TestCheckCapacity(t *testing.T) {
	for _, c := range []int{1, 2, 100, api.MaxCapacity - 1, api.MaxCapacity} {
		expectOK(t, "capacity", change(func(n *api.Network) { n.Segments[0].Capacity, n.Segments[0].Points[1].At = c, c }))
	}
	for _, c := range []int{0, -1, -100, api.MaxCapacity + 1, 1 << 32, math.MinInt, math.MaxInt} {
		expectError(t, "capacity", change(func(n *api.Network) { n.Segments[0].Capacity, n.Segments[0].Points[1].At = c, c }), api.ErrInvalid)
	}
}

// P12.1: the places of points ascend strictly from 0 to the capacity.
func TestCheckPoints(t *testing.T) {
	for _, x := range []struct {
		at    []int
		valid bool
	}{
		{[]int{0, 100}, true},
		{[]int{0, 1, 100}, true},
		{[]int{0, 99, 100}, true},
		{[]int{0, 1, 2, 3, 97, 98, 99, 100}, true},
		{[]int{0, 99}, false},
		{[]int{0, 101}, false},
		{[]int{1, 100}, false},
		{[]int{-1, 100}, false},
		{[]int{100, 0}, false},
		{[]int{0, 0}, false},
		{[]int{100, 100}, false},
		{[]int{0, 0, 100}, false},
		{[]int{0, 100, 100}, false},
		{[]int{0, 50, 50, 100}, false},
		{[]int{0, 51, 50, 100}, false},
		{[]int{0, 50, 100, 99}, false},
		{[]int{0, 120, 100}, false},
		{[]int{0, -1, 100}, false},
		{[]int{0, 50, 100, 101}, false},
		{[]int{math.MinInt, 0, 100}, false},
		{[]int{0, 100, math.MaxInt}, false},
	} {
		n := example()
		n.Segments[0].Points = nil
		for _, at := range x.at {
			n.Segments[0].Points = append(n.Segments[0].Points, api.Point{At: at})
		}
		if x.valid {
			expectOK(t, "points", n)
			continue
		}
		expectError(t, "points", n, api.ErrInvalid)
	}
	middle := full()
	middle.Segments[api.MaxSegments-1].Points[4].Height = -501
	expectError(t, "a height in the middle", middle, api.ErrInvalid)
	middle = full()
	middle.Segments[api.MaxSegments-1].Points[4].Limit = -1
	expectError(t, "a limit in the middle", middle, api.ErrInvalid)
}

// P12.1: the ends of a segment are different.
func TestCheckEnds(t *testing.T) {
	expectError(t, "a to a", change(func(n *api.Network) { n.Segments[0].To = 0 }), api.ErrInvalid)
	expectError(t, "b to b", change(func(n *api.Network) { n.Segments[0].From = 1 }), api.ErrInvalid)
	last := full()
	last.Segments[api.MaxSegments-1].To = last.Segments[api.MaxSegments-1].From
	expectError(t, "the last one", last, api.ErrInvalid)
	expectOK(t, "b to a", change(func(n *api.Network) { n.Segments[0].From, n.Segments[0].To = 1, 0 }))
}

// P12.1: of two errors the one that is listed first, wherever they are.
func TestCheckOrder(t *testing.T) {
	type wrong struct {
		e api.Errno
		f func(n *api.Network)
	}
	wrongs := []wrong{
		{api.ErrLimit, func(n *api.Network) { n.Segments[1].Points = n.Segments[1].Points[:1] }},
		{api.ErrLimit, func(n *api.Network) { n.Stations = append(n.Stations, make([]api.Station, 20)...) }},
		{api.ErrForm, func(n *api.Network) { n.Stations[2].Name = "" }},
		{api.ErrForm, func(n *api.Network) { n.Nodes[5], n.Nodes[6] = "A", "A" }},
		{api.ErrTwice, func(n *api.Network) { n.Stations[3].Node = n.Stations[4].Node }},
		{api.ErrTwice, func(n *api.Network) { n.Nodes[7] = n.Nodes[8] }},
		{api.ErrUnknown, func(n *api.Network) { n.Ports[9].Node = api.MaxNodes }},
		{api.ErrUnknown, func(n *api.Network) { n.Segments[20].From = -1 }},
		{api.ErrInvalid, func(n *api.Network) { n.Segments[0].Wave = -1 }},
		{api.ErrInvalid, func(n *api.Network) { n.Settle = 101 }},
	}
	for i, first := range wrongs {
		for _, second := range wrongs[i:] {
			n := full()
			first.f(&n)
			second.f(&n)
			expectError(t, "two errors", n, listedFirst(first.e, second.e))
		}
	}
	noNodes := full()
	noNodes.Nodes = nil
	expectError(t, "all indices unknown", noNodes, api.ErrLimit)
}

// listedFirst is the one of two errors that is listed first.
func listedFirst(a, b api.Errno) api.Errno {
	order := []api.Errno{api.ErrLimit, api.ErrForm, api.ErrTwice, api.ErrUnknown, api.ErrInvalid}
	return order[min(slices.Index(order, a), slices.Index(order, b))]
}

// P12.3: the first one with a name, of any network.
func TestFind(t *testing.T) {
	n := full()
	for i, name := range n.Nodes {
		if got := Node(n, name); got != i {
			t.Errorf("Node(%q) = %d, want %d", name, got, i)
		}
	}
	for i, s := range n.Segments {
		if got := Segment(n, s.Name); got != i {
			t.Errorf("Segment(%q) = %d, want %d", s.Name, got, i)
		}
	}
	for i, p := range n.Ports {
		if got := Port(n, p.Name); got != i {
			t.Errorf("Port(%q) = %d, want %d", p.Name, got, i)
		}
	}
	odd := api.Network{
		Nodes:    []string{"x", "", "A b", "x", "A b"},
		Segments: []api.Segment{{Name: "s"}, {Name: "7"}, {Name: "7", From: -1}, {Name: ""}},
		Ports:    []api.Port{{Name: "p", Node: 100}, {Name: ""}, {Name: "p"}, {Name: "é"}},
		Stations: []api.Station{{Name: "q"}},
	}
	for _, x := range []struct {
		name                string
		node, segment, port int
	}{
		{"x", 0, -1, -1},
		{"", 1, 3, 1},
		{"A b", 2, -1, -1},
		{"s", -1, 0, -1},
		{"7", -1, 1, -1},
		{"p", -1, -1, 0},
		{"é", -1, -1, 3},
		{"q", -1, -1, -1},
		{"X", -1, -1, -1},
	} {
		if a, b, c := Node(odd, x.name), Segment(odd, x.name), Port(odd, x.name); a != x.node || b != x.segment || c != x.port {
			t.Errorf("%q: %d, %d, %d, want %+v", x.name, a, b, c, x)
		}
	}
	var none api.Network
	if Node(none, "") != -1 || Segment(none, "") != -1 || Port(none, "") != -1 {
		t.Error("something is found in an empty network")
	}
}

// R2: no function changes its argument or the capacity behind it, and results share no memory.
func TestMemory(t *testing.T) {
	n := full()
	n.Nodes = slices.Grow(n.Nodes, 5)
	Check(n)
	text, _ := Format(n)
	Node(n, "a")
	Segment(n, "a")
	Port(n, "a")
	if !equal(n, full()) || slices.ContainsFunc(n.Nodes[api.MaxNodes:cap(n.Nodes)], func(s string) bool { return s != "" }) {
		t.Error("the network was changed")
	}
	first, _, _ := Parse(text)
	again, _, _ := Parse(text)
	clear(first.Nodes[:cap(first.Nodes)])
	clear(first.Ports[:cap(first.Ports)])
	clear(first.Stations[:cap(first.Stations)])
	points := first.Segments[0].Points
	clear(points[:cap(points)])
	if !equal(again, full()) || !slices.Equal(first.Segments[1].Points, full().Segments[1].Points) {
		t.Error("results of Parse share memory")
	}
	clear(first.Segments[:cap(first.Segments)])
	if !equal(again, full()) {
		t.Error("segments of two results share memory")
	}
}
