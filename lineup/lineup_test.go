package lineup

import (
	"fmt"
	"slices"
	"strconv"
	"testing"

	"batchline/api"
)

// build is a network of so many nodes, with segments and ports at these.
func build(nodes int, segments [][2]int, ports ...int) api.Network {
	n := api.Network{Nodes: make([]string, nodes)}
	for i := range n.Nodes {
		n.Nodes[i] = "node-" + strconv.Itoa(i)
	}
	for i, ends := range segments {
		n.Segments = append(n.Segments, api.Segment{
			Name: "segment-" + strconv.Itoa(i), From: ends[0], To: ends[1], Capacity: 1000,
			Points: []api.Point{{}, {At: 1000}},
		})
	}
	for i, node := range ports {
		n.Ports = append(n.Ports, api.Port{Name: "port-" + strconv.Itoa(i), Node: node})
	}
	return n
}

// row is three nodes in a row, with a port at each of them, and pumps at the second one.
func row() api.Network {
	n := build(3, [][2]int{{0, 1}, {1, 2}}, 0, 1, 2)
	n.Stations = []api.Station{{Name: "pumps", Node: 1}}
	return n
}

// flowing is a plan for row with these rates.
func flowing(first, second int) api.Plan {
	return api.Plan{Rates: []int{first, second}, Ports: []int{first, second - first, -second}, Pumps: []bool{false}}
}

// bits returns for each letter whether it is 1.
func bits(letters string) []bool {
	list := make([]bool, len(letters))
	for i, letter := range letters {
		list[i] = letter == '1'
	}
	return list
}

// open is the lineup in which the valves are open that are 1.
func open(segments, ports string) api.Lineup {
	return api.Lineup{Segments: bits(segments), Ports: bits(ports)}
}

// equal reports whether two lineups are equal.
func equal(a, b api.Lineup) bool {
	return slices.Equal(a.Segments, b.Segments) && slices.Equal(a.Ports, b.Ports)
}

// text is v as a text, of which a part may be printed.
func text(v any) string { return fmt.Sprint(v) }

// expectNeed checks what p needs.
func expectNeed(t *testing.T, n api.Network, p api.Plan, want api.Lineup) {
	t.Helper()
	if got, e := Need(n, p); !equal(got, want) || e != api.OK {
		t.Errorf("Need of %.999s, %.999s = %v, %d, want %v", text(n), text(p), got, e, want)
	}
}

// expectOf checks the lineup of valves.
func expectOf(t *testing.T, n api.Network, l []api.Valve, want api.Lineup) {
	t.Helper()
	if got, e := Of(n, l); !equal(got, want) || e != api.OK {
		t.Errorf("Of %.999s, %.999s = %v, %d, want %v", text(n), text(l), got, e, want)
	}
}

// expectPermits checks whether p can flow.
func expectPermits(t *testing.T, n api.Network, l api.Lineup, p api.Plan, want bool) {
	t.Helper()
	if got, e := Permits(n, l, p); got != want || e != api.OK {
		t.Errorf("Permits of %.999s, %v, %.999s = %t, %d, want %t", text(n), l, text(p), got, e, want)
	}
}

// expectChanges checks which valves open and close.
func expectChanges(t *testing.T, n api.Network, a, b api.Lineup, opens, closes []int) {
	t.Helper()
	if x, y, e := Changes(n, a, b); !slices.Equal(x, opens) || !slices.Equal(y, closes) || e != api.OK {
		t.Errorf("Changes of %.999s, %v, %v = %v, %v, %d, want %v, %v", text(n), a, b, x, y, e, opens, closes)
	}
}

// expectShut checks the segments that are closed.
func expectShut(t *testing.T, n api.Network, l api.Lineup, want string) {
	t.Helper()
	if got, e := Shut(n, l); !slices.Equal(got, bits(want)) || e != api.OK {
		t.Errorf("Shut of %.999s, %v = %v, %d, want %s", text(n), l, got, e, want)
	}
}

// P24.2: the example of the chapter: behind two segments, the port's valve has the number 2.
func TestExample(t *testing.T) {
	n := build(2, [][2]int{{0, 1}, {0, 1}}, 0)
	expectChanges(t, n, open("00", "0"), open("00", "1"), []int{2}, nil)
	expectChanges(t, n, open("00", "1"), open("00", "0"), nil, []int{2})
	expectChanges(t, n, open("01", "0"), open("10", "1"), []int{0, 2}, []int{1})
}

// P24.1: a lineup is valid with as many segments and ports as the network, whichever of them are open.
func TestValid(t *testing.T) {
	for segments := range 5 {
		for ports := range 5 {
			n := build(2, slices.Repeat([][2]int{{0, 1}}, segments), make([]int, ports)...)
			for s := range 5 {
				for p := range 5 {
					for _, is := range []bool{false, true} {
						l := api.Lineup{Segments: slices.Repeat([]bool{is}, s), Ports: slices.Repeat([]bool{is}, p)}
						if want := s == segments && p == ports; Valid(n, l) != want {
							t.Errorf("Valid of %v with %d segments and %d ports = %t", l, segments, ports, !want)
						}
					}
				}
			}
		}
	}
	if !Valid(api.Network{}, api.Lineup{}) || !Valid(build(1, nil), api.Lineup{Segments: []bool{}}) || Valid(row(), api.Lineup{}) {
		t.Error("Valid of an empty lineup")
	}
}

// P24.1: Valid looks at nothing but how many segments and ports there are, in networks that are not valid, too.
func TestValidOfAnyNetwork(t *testing.T) {
	n := api.Network{Segments: make([]api.Segment, 2), Ports: make([]api.Port, 3)}
	for _, x := range []struct {
		segments, ports string
		want            bool
	}{{"01", "011", true}, {"011", "01", false}, {"01", "0110", false}, {"01", "01", false}, {"0", "011", false}, {"011", "011", false}, {"", "", false}, {"01011", "", false}} {
		if Valid(n, open(x.segments, x.ports)) != x.want {
			t.Errorf("Valid of %s, %s = %t", x.segments, x.ports, !x.want)
		}
	}
	n = api.Network{Segments: make([]api.Segment, api.MaxSegments+1), Ports: make([]api.Port, api.MaxPorts+1)}
	if !Valid(n, api.Lineup{Segments: make([]bool, api.MaxSegments+1), Ports: make([]bool, api.MaxPorts+1)}) {
		t.Error("Valid of a network that is too large")
	}
}

// P24.1: a plan needs the valves of what flows, either way, of the segments and of the ports.
func TestNeed(t *testing.T) {
	n := row()
	for _, x := range []struct {
		first, second   int
		segments, ports string
	}{
		{0, 0, "00", "000"},
		{1, 0, "10", "110"},
		{-1, 0, "10", "110"},
		{0, 1, "01", "011"},
		{0, -1, "01", "011"},
		{5, 5, "11", "101"},
		{-5, -5, "11", "101"},
		{5, 4, "11", "111"},
		{5, -5, "11", "111"},
		{1000, 1000, "11", "101"},
		{-1000, -1000, "11", "101"},
	} {
		expectNeed(t, n, flowing(x.first, x.second), open(x.segments, x.ports))
	}
}

// P24.1: pumps need no valves, and a port can flow where no segment does.
func TestNeedOfPorts(t *testing.T) {
	n := build(2, [][2]int{{0, 1}}, 1, 0, 1, 0)
	for _, x := range []struct {
		rate            int
		ports           []int
		segments, names string
	}{
		{0, []int{3, 0, -3, 0}, "0", "1010"},
		{0, []int{3, -7, -3, 7}, "0", "1111"},
		{7, []int{0, 7, -7, 0}, "1", "0110"},
		{7, []int{-7, 0, 0, 7}, "1", "1001"},
		{-7, []int{7, -3, 0, -4}, "1", "1101"},
		{0, []int{0, 1000, 0, -1000}, "0", "0101"},
	} {
		expectNeed(t, n, api.Plan{Rates: []int{x.rate}, Ports: x.ports}, open(x.segments, x.names))
	}
	pumped := flowing(0, 0)
	pumped.Pumps[0] = true
	expectNeed(t, row(), pumped, open("00", "000"))
}

// P24.1: a valve is open if it is there, whether it shall be or is stuck. Those of the ports are behind those of the segments.
func TestOf(t *testing.T) {
	n := row()
	closed, full, half := api.Valve{Travel: 3}, api.Valve{Travel: 3, Open: 3}, api.Valve{Travel: 3, Open: 2}
	expectOf(t, n, []api.Valve{closed, closed, closed, closed, closed}, open("00", "000"))
	expectOf(t, n, []api.Valve{full, full, full, full, full}, open("11", "111"))
	expectOf(t, n, []api.Valve{half, half, half, half, half}, open("00", "000"))
	expectOf(t, n, []api.Valve{full, closed, half, full, closed}, open("10", "010"))
	for i := range 5 {
		for _, x := range []struct {
			v    api.Valve
			open bool
		}{
			{api.Valve{Travel: 3, Want: true}, false},
			{api.Valve{Travel: 3, Open: 2, Want: true}, false},
			{api.Valve{Travel: 3, Open: 3, Want: true}, true},
			{api.Valve{Travel: 3, Open: 3, Want: false}, true},
			{api.Valve{Travel: 3, Open: 3, Stuck: true}, true},
			{api.Valve{Travel: 3, Open: 3, Want: true, Stuck: true}, true},
			{api.Valve{Travel: 3, Open: 2, Want: true, Stuck: true}, false},
			{api.Valve{Travel: 1, Open: 1}, true},
			{api.Valve{Travel: 1, Want: true}, false},
			{api.Valve{Travel: 60, Open: 60}, true},
			{api.Valve{Travel: 60, Open: 59, Want: true}, false},
			{api.Valve{Travel: 60, Open: 1, Want: true}, false},
		} {
			valves, is := slices.Repeat([]api.Valve{closed}, 5), make([]bool, 5)
			valves[i], is[i] = x.v, x.open
			expectOf(t, n, valves, api.Lineup{Segments: is[:2], Ports: is[2:]})
		}
	}
}

// P24.2: a plan is permitted if the valves are open that it needs; others may be.
func TestPermits(t *testing.T) {
	n := row()
	for _, x := range []struct {
		segments, ports string
		first, second   int
		want            bool
	}{
		{"00", "000", 0, 0, true}, {"11", "111", 0, 0, true}, {"10", "010", 0, 0, true},
		{"11", "111", 5, 4, true}, {"11", "111", -5, -5, true}, {"11", "101", 5, 5, true}, {"11", "101", -5, -5, true},
		{"11", "101", 5, 4, false}, {"11", "101", 4, 5, false}, {"01", "111", 5, 5, false}, {"10", "111", 5, 5, false},
		{"11", "011", 5, 5, false}, {"11", "110", 5, 5, false}, {"11", "011", -5, -5, false}, {"00", "000", 5, 5, false},
		{"10", "110", 5, 0, true}, {"10", "111", -5, 0, true}, {"10", "011", 5, 0, false}, {"01", "111", 5, 0, false},
		{"10", "101", 5, 0, false}, {"01", "011", 0, 5, true}, {"01", "010", 0, 5, false}, {"01", "001", 0, -5, false},
	} {
		expectPermits(t, n, open(x.segments, x.ports), flowing(x.first, x.second), x.want)
	}
}

// P24.2: Changes has the valves that open, and those that close, ascending, those of the ports behind those of the segments.
func TestChanges(t *testing.T) {
	n := row()
	for _, x := range []struct {
		segments, ports, nextSegments, nextPorts string
		opens, closes                            []int
	}{
		{"00", "000", "00", "000", nil, nil},
		{"11", "111", "11", "111", nil, nil},
		{"10", "011", "10", "011", nil, nil},
		{"00", "000", "11", "111", []int{0, 1, 2, 3, 4}, nil},
		{"11", "111", "00", "000", nil, []int{0, 1, 2, 3, 4}},
		{"10", "010", "01", "101", []int{1, 2, 4}, []int{0, 3}},
		{"01", "101", "10", "010", []int{0, 3}, []int{1, 2, 4}},
		{"11", "010", "01", "011", []int{4}, []int{0}},
		{"01", "001", "11", "101", []int{0, 2}, nil},
		{"01", "101", "01", "001", nil, []int{2}},
		{"01", "101", "00", "101", nil, []int{1}},
	} {
		expectChanges(t, n, open(x.segments, x.ports), open(x.nextSegments, x.nextPorts), x.opens, x.closes)
	}
}

// P24.2: a segment is shut if its valve is closed, whatever those of the ports are.
func TestShut(t *testing.T) {
	n := row()
	for _, ports := range []string{"000", "111", "010"} {
		expectShut(t, n, open("00", ports), "11")
		expectShut(t, n, open("10", ports), "01")
		expectShut(t, n, open("01", ports), "10")
		expectShut(t, n, open("11", ports), "00")
	}
}

// P24.1, P24.2: a network without segments, without ports, and without both.
func TestEmpty(t *testing.T) {
	for _, x := range []struct {
		n               api.Network
		segments, ports string
	}{
		{build(1, nil), "", ""},
		{build(1, nil, 0, 0, 0), "", "101"},
		{build(2, [][2]int{{0, 1}, {1, 0}}), "10", ""},
	} {
		still := api.Plan{Rates: make([]int, len(x.segments)), Ports: make([]int, len(x.ports))}
		none := open(string(make([]byte, len(x.segments))), string(make([]byte, len(x.ports))))
		l := open(x.segments, x.ports)
		expectNeed(t, x.n, still, none)
		expectPermits(t, x.n, l, still, true)
		expectPermits(t, x.n, none, still, true)
		var valves []api.Valve
		var numbers []int
		for i, is := range slices.Concat(l.Segments, l.Ports) {
			v := api.Valve{Travel: 2}
			if is {
				v.Open = 2
				numbers = append(numbers, i)
			}
			valves = append(valves, v)
		}
		expectOf(t, x.n, valves, l)
		expectChanges(t, x.n, none, l, numbers, nil)
		expectChanges(t, x.n, l, none, nil, numbers)
	}
	expectShut(t, build(1, nil, 0), open("", "1"), "")
	expectShut(t, build(2, [][2]int{{0, 1}, {1, 0}}), open("10", ""), "01")
	expectNeed(t, build(1, nil), api.Plan{Rates: []int{}}, api.Lineup{})
	expectNeed(t, build(1, nil, 0, 0), api.Plan{Ports: []int{3, -3}}, open("", "11"))
}

// P24.1, P24.2: the greatest network.
func TestGreatest(t *testing.T) {
	segments := slices.Repeat([][2]int{{0, 1}}, api.MaxSegments)
	var ports []int
	p := api.Plan{Rates: make([]int, api.MaxSegments), Ports: make([]int, api.MaxPorts)}
	for i := range api.MaxPorts {
		ports = append(ports, i%2)
		p.Ports[i] = 30 * (1 - i%2*2)
	}
	for i := 0; i < api.MaxSegments; i += 2 {
		p.Rates[i] = 20
	}
	p.Rates[0] = 60 // 12 ports bring 360, the 15 other segments take 300
	n := build(2, segments, ports...)
	some := api.Lineup{Segments: bits("10101010101010101010101010101010"), Ports: bits("111111111111111111111111")}
	expectNeed(t, n, p, some)
	expectPermits(t, n, some, p, true)
	var even, odd, rest []int
	for i := range api.MaxSegments / 2 {
		even, odd = append(even, 2*i), append(odd, 2*i+1)
	}
	for i := range api.MaxPorts {
		rest = append(rest, api.MaxSegments+i)
	}
	other := api.Lineup{Segments: bits("01010101010101010101010101010101"), Ports: make([]bool, api.MaxPorts)}
	expectChanges(t, n, some, other, odd, slices.Concat(even, rest))
	expectChanges(t, n, other, some, slices.Concat(even, rest), odd)
	expectPermits(t, n, other, p, false)
	expectShut(t, n, some, "01010101010101010101010101010101")
	valves := slices.Repeat([]api.Valve{{Travel: 9, Open: 9}, {Travel: 9, Open: 8}}, (api.MaxSegments+api.MaxPorts)/2)
	expectOf(t, n, valves, open("10101010101010101010101010101010", "101010101010101010101010"))
}
