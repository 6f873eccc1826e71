package step

import (
	"fmt"
	"math"
	"slices"
	"strconv"
	"testing"

	"batchline/api"
)

// build is a network of so many nodes, with segments and ports at these.
func build(nodes int, segments [][2]int, ports ...int) api.Network {
	n := api.Network{Nodes: make([]string, nodes)}
	for i := range n.Nodes {
		n.Nodes[i] = "node-" + strconv.Itoa(i)
	}
	for i, ends := range segments {
		n.Segments = append(n.Segments, api.Segment{
			Name: "segment-" + strconv.Itoa(i), From: ends[0], To: ends[1], Capacity: 5000,
			Points: []api.Point{{}, {At: 5000}},
		})
	}
	for i, node := range ports {
		n.Ports = append(n.Ports, api.Port{Name: "port-" + strconv.Itoa(i), Node: node})
	}
	return n
}

// withStations returns n with stations at nodes.
func withStations(n api.Network, nodes ...int) api.Network {
	for i, node := range nodes {
		n.Stations = append(n.Stations, api.Station{Name: "station-" + strconv.Itoa(i), Node: node})
	}
	return n
}

// withCapacity returns n with another capacity of a segment.
func withCapacity(n api.Network, segment, capacity int) api.Network {
	n.Segments[segment].Capacity, n.Segments[segment].Points[1].At = capacity, capacity
	return n
}

// fork is a network in which 0 leads to 1, and this to 2, also by way of 3, with a small segment back from 2 to 1. Its valves are numbered: segments from 0 to 4, ports from 5 to 11.
func fork() api.Network {
	n := build(4, [][2]int{{0, 1}, {1, 2}, {1, 3}, {3, 2}, {2, 1}}, 0, 0, 2, 3, 2, 1, 1)
	return withStations(withCapacity(n, 4, 20), 1, 3, 0)
}

// hops are those over segments; a negative number -1-i stands for the segment i back.
func hops(numbers ...int) []api.Hop {
	var list []api.Hop
	for _, i := range numbers {
		if i < 0 {
			list = append(list, api.Hop{Segment: -1 - i, Back: true})
		} else {
			list = append(list, api.Hop{Segment: i})
		}
	}
	return list
}

// grow is the step by which the flow from a port to a port over hops grows.
func grow(value, in, out int, numbers ...int) api.Step {
	return api.Step{Kind: api.StepFlow, Value: value, Path: api.Path{In: in, Out: out, Hops: hops(numbers...)}}
}

// open is the step that opens a valve.
func open(number int) api.Step { return api.Step{Kind: api.StepOpen, Index: number} }

// shut is the step that closes a valve.
func shut(number int) api.Step { return api.Step{Kind: api.StepClose, Index: number} }

// start is the step that starts a station.
func start(station int) api.Step { return api.Step{Kind: api.StepStart, Index: station} }

// stop is the step that stops a station.
func stop(station int) api.Step { return api.Step{Kind: api.StepStop, Index: station} }

// pass is the step that lets ticks go by.
func pass(ticks int) api.Step { return api.Step{Kind: api.StepWait, Value: ticks} }

// valves is how many valves n has.
func valves(n api.Network) int { return len(n.Segments) + len(n.Ports) }

// ready is a desk of n on which all valves, of the travel 4, are open, and nothing flows.
func ready(n api.Network) api.Desk {
	return api.Desk{
		Valves: slices.Repeat([]api.Valve{{Travel: 4, Open: 4, Want: true}}, valves(n)),
		Plan:   api.Plan{Rates: make([]int, len(n.Segments)), Ports: make([]int, len(n.Ports)), Pumps: make([]bool, len(n.Stations))},
	}
}

// flowing is a desk of fork on which the valves are open and 30 flow from the ports 0 and 1 to the ports 2 (over both ways) and 3.
func flowing() api.Desk {
	d := ready(fork())
	d.Plan = api.Plan{Rates: []int{30, 15, 15, 8, 0}, Ports: []int{20, 10, -23, -7, 0, 0, 0}, Pumps: []bool{true, false, false}}
	return d
}

// cloned returns d in new memory, which can be changed.
func cloned(d api.Desk) api.Desk {
	return api.Desk{Valves: slices.Clone(d.Valves), Plan: clonedPlan(d.Plan)}
}

// clonedPlan returns p in new memory, which can be changed.
func clonedPlan(p api.Plan) api.Plan {
	return api.Plan{Rates: slices.Clone(p.Rates), Ports: slices.Clone(p.Ports), Pumps: slices.Clone(p.Pumps)}
}

// same reports whether two desks are equal.
func same(a, b api.Desk) bool {
	return slices.Equal(a.Valves, b.Valves) && slices.Equal(a.Plan.Rates, b.Plan.Rates) &&
		slices.Equal(a.Plan.Ports, b.Plan.Ports) && slices.Equal(a.Plan.Pumps, b.Plan.Pumps)
}

// text is v as a text, of which a part may be printed.
func text(v any) string { return fmt.Sprintf("%+v", v) }

// expectCheck checks the error of a desk.
func expectCheck(t *testing.T, n api.Network, d api.Desk, want api.Errno) {
	t.Helper()
	if e := Check(n, d); e != want {
		t.Errorf("Check of %.1999s = %d, want %d", text(d), e, want)
	}
}

// expectApply checks the desk behind a step, and that it is valid.
func expectApply(t *testing.T, n api.Network, d api.Desk, s api.Step, want api.Desk) {
	t.Helper()
	got, e := Apply(n, d, s)
	if !same(got, want) || e != api.OK {
		t.Errorf("Apply of %.999s, %.999s = %.999s, %d, want %.999s", text(d), text(s), text(got), e, text(want))
	}
	expectCheck(t, n, want, api.OK)
}

// expectRefused checks the error of a step, and that the desk is as it was.
func expectRefused(t *testing.T, n api.Network, d api.Desk, s api.Step, want api.Errno) {
	t.Helper()
	if got, e := Apply(n, d, s); !same(got, d) || e != want {
		t.Errorf("Apply of %.999s, %.999s = %.999s, %d, want the error %d", text(d), text(s), text(got), e, want)
	}
}

// applied returns the desk behind steps, none of which is refused.
func applied(t *testing.T, n api.Network, d api.Desk, l ...api.Step) api.Desk {
	t.Helper()
	for _, s := range l {
		next, e := Apply(n, d, s)
		if e != api.OK {
			t.Fatalf("Apply of %.999s, %.999s has the error %d", text(d), text(s), e)
		}
		d = next
	}
	return d
}

// strangers are numbers that are no index of a list with count elements.
func strangers(count int) []int {
	return []int{-1, count, count + 1, math.MinInt, math.MaxInt}
}

// P26.1, P26.2: the example of the chapter: a flow is refused until the valves have been opened, and have had time.
func TestExample(t *testing.T) {
	n := fork()
	d, e := Idle(n, 4)
	if e != api.OK {
		t.Fatalf("Idle has the error %d", e)
	}
	flow := grow(10, 0, 2, 0, 1)
	expectRefused(t, n, d, flow, api.ErrStep)
	for _, number := range []int{0, 1, 5, 7} {
		d = applied(t, n, d, open(number))
		expectRefused(t, n, d, flow, api.ErrStep)
	}
	for range 3 {
		d = applied(t, n, d, pass(1))
		expectRefused(t, n, d, flow, api.ErrStep)
	}
	d = applied(t, n, d, pass(1), flow)
	if !slices.Equal(d.Plan.Rates, []int{10, 10, 0, 0, 0}) || !slices.Equal(d.Plan.Ports, []int{10, 0, -10, 0, 0, 0, 0}) {
		t.Errorf("the plan is %v", d.Plan)
	}
}

// P26.1: the valves of an idle desk are closed and shall be, nothing flows, and the stations stand still.
func TestIdle(t *testing.T) {
	greatest := withStations(build(api.MaxNodes, slices.Repeat([][2]int{{0, 1}}, api.MaxSegments), slices.Repeat([]int{3}, api.MaxPorts)...), 0, 1, 2, 3, 4, 5, 6, 7, 8, 9, 10, 11)
	for _, n := range []api.Network{fork(), build(1, nil), build(1, nil, 0), build(2, [][2]int{{0, 1}}), greatest} {
		for travel := 1; travel <= 60; travel++ {
			want := ready(n)
			for i := range want.Valves {
				want.Valves[i] = api.Valve{Travel: travel}
			}
			got, e := Idle(n, travel)
			if !same(got, want) || e != api.OK {
				t.Errorf("Idle of %.999s, %d = %.999s, %d", text(n), travel, text(got), e)
			}
			expectCheck(t, n, got, api.OK)
		}
	}
}

// P26.1: a travel that no valve has, and networks that are not valid, which come first.
func TestIdleErrors(t *testing.T) {
	expect := func(n api.Network, travel int, want api.Errno) {
		t.Helper()
		if got, e := Idle(n, travel); !same(got, api.Desk{}) || e != want {
			t.Errorf("Idle of %.999s, %d = %.999s, %d, want the error %d", text(n), travel, text(got), e, want)
		}
	}
	for _, travel := range []int{0, 61, -1, -60, 1000, math.MinInt, math.MaxInt} {
		expect(fork(), travel, api.ErrValve)
		expect(build(1, nil), travel, api.ErrValve)
	}
	for _, x := range networkSpoilers {
		for _, travel := range []int{1, 60, 0, 61} {
			n := fork()
			x.spoil(&n)
			expect(n, travel, x.want)
		}
	}
}

// P26.1: the valves that the plan needs, of segments and of ports, are open and want to be; the others may be anywhere.
func TestCheckValves(t *testing.T) {
	n := fork()
	needed := map[int]bool{0: true, 1: true, 2: true, 3: true, 5: true, 6: true, 7: true, 8: true}
	for number := range valves(n) {
		for _, v := range []api.Valve{
			{Travel: 4, Open: 4, Want: true}, {Travel: 4, Open: 4, Want: true, Stuck: true}, {Travel: 1, Open: 1, Want: true}, {Travel: 60, Open: 60, Want: true},
			{Travel: 4, Open: 3, Want: true}, {Travel: 4, Open: 4}, {Travel: 4, Open: 4, Stuck: true}, {Travel: 4, Want: true}, {Travel: 4}, {Travel: 4, Open: 1}, {Travel: 60, Open: 59, Want: true, Stuck: true},
		} {
			d := flowing()
			d.Valves[number] = v
			want := api.OK
			if needed[number] && (v.Open != v.Travel || !v.Want) {
				want = api.ErrState
			}
			expectCheck(t, n, d, want)
			d.Plan = ready(n).Plan
			expectCheck(t, n, d, api.OK)
		}
	}
}

// P26.1: a station runs only where something leaves its node, through a segment either way or through a port.
func TestCheckStations(t *testing.T) {
	n := withStations(build(3, [][2]int{{0, 1}, {2, 1}}, 0, 1, 2, 0), 0, 1, 2)
	for _, x := range []struct {
		rates, ports []int
		may          [3]bool
	}{
		{[]int{0, 0}, []int{0, 0, 0, 0}, [3]bool{}},
		{[]int{5, 0}, []int{5, -5, 0, 0}, [3]bool{true, true, false}},
		{[]int{-5, 0}, []int{-5, 5, 0, 0}, [3]bool{true, true, false}},
		{[]int{5, -5}, []int{5, 0, -5, 0}, [3]bool{true, true, true}},
		{[]int{-5, 5}, []int{-5, 0, 5, 0}, [3]bool{true, true, true}},
		{[]int{0, 1}, []int{0, -1, 1, 0}, [3]bool{false, true, true}},
		{[]int{0, 0}, []int{5, 0, 0, -5}, [3]bool{true, false, false}},
	} {
		for set := range 8 {
			d := ready(n)
			d.Plan = api.Plan{Rates: x.rates, Ports: x.ports, Pumps: make([]bool, 3)}
			want := api.OK
			for i := range 3 {
				d.Plan.Pumps[i] = set>>i&1 == 1
				if d.Plan.Pumps[i] && !x.may[i] {
					want = api.ErrState
				}
			}
			expectCheck(t, n, d, want)
		}
	}
}

// P26.2: each valve is told to open, wherever it is, also if it is told so already, sticks, or is needed.
func TestOpen(t *testing.T) {
	n := fork()
	for number := range valves(n) {
		for _, v := range []api.Valve{{Travel: 4}, {Travel: 4, Want: true}, {Travel: 4, Open: 2}, {Travel: 4, Open: 2, Stuck: true}, {Travel: 4, Open: 4}, {Travel: 4, Open: 4, Want: true}} {
			d := ready(n)
			d.Valves[number] = v
			want := cloned(d)
			want.Valves[number].Want = true
			expectApply(t, n, d, open(number), want)
		}
		expectApply(t, n, flowing(), open(number), flowing())
	}
	for _, number := range strangers(valves(n)) {
		expectRefused(t, n, ready(n), open(number), api.ErrUnknown)
		expectRefused(t, n, flowing(), open(number), api.ErrUnknown)
		expectRefused(t, build(1, nil), ready(build(1, nil)), open(number), api.ErrUnknown)
	}
}

// P26.2: a valve is told to close wherever it is, unless the plan needs it.
func TestClose(t *testing.T) {
	n := fork()
	for number := range valves(n) {
		for _, v := range []api.Valve{{Travel: 4}, {Travel: 4, Want: true}, {Travel: 4, Open: 2, Want: true}, {Travel: 4, Open: 2, Want: true, Stuck: true}, {Travel: 4, Open: 4}, {Travel: 4, Open: 4, Want: true}} {
			d := ready(n)
			d.Valves[number] = v
			want := cloned(d)
			want.Valves[number].Want = false
			expectApply(t, n, d, shut(number), want)
		}
		d, want := flowing(), flowing()
		if number < 4 || 5 <= number && number <= 8 {
			expectRefused(t, n, d, shut(number), api.ErrStep)
			continue
		}
		want.Valves[number].Want = false
		expectApply(t, n, d, shut(number), want)
		expectApply(t, n, want, shut(number), want)
	}
	for _, number := range strangers(valves(n)) {
		expectRefused(t, n, ready(n), shut(number), api.ErrUnknown)
		expectRefused(t, n, flowing(), shut(number), api.ErrUnknown)
	}
}

// P26.2: a valve can be closed once its flow is taken down, whichever way it was, and not before.
func TestCloseBehind(t *testing.T) {
	n := fork()
	for _, x := range []struct {
		in, out int
		over    []int
		numbers []int
	}{{0, 2, []int{0, 1}, []int{0, 1, 5, 7}}, {2, 0, []int{-2, -1}, []int{0, 1, 5, 7}}, {4, 2, nil, []int{7, 9}}, {3, 5, []int{-3}, []int{2, 8, 10}}} {
		d := applied(t, n, ready(n), grow(5, x.in, x.out, x.over...))
		for number := range valves(n) {
			if slices.Contains(x.numbers, number) {
				expectRefused(t, n, d, shut(number), api.ErrStep)
			} else {
				applied(t, n, d, shut(number))
			}
		}
		less := applied(t, n, d, grow(-4, x.in, x.out, x.over...))
		for _, number := range x.numbers {
			expectRefused(t, n, less, shut(number), api.ErrStep)
		}
		none := applied(t, n, less, grow(-1, x.in, x.out, x.over...))
		for number := range valves(n) {
			applied(t, n, none, shut(number))
		}
	}
}

// P26.2: stations start where something leaves their node, and stop.
func TestStations(t *testing.T) {
	n := fork()
	d := ready(n)
	for station := range 3 {
		expectRefused(t, n, d, start(station), api.ErrStep)
		expectApply(t, n, d, stop(station), d)
	}
	d = applied(t, n, d, grow(9, 0, 2, 0, 1))
	for station, leaves := range []bool{true, false, true} {
		want := cloned(d)
		expectApply(t, n, d, stop(station), want)
		if !leaves {
			expectRefused(t, n, d, start(station), api.ErrStep)
			continue
		}
		want.Plan.Pumps[station] = true
		expectApply(t, n, d, start(station), want)
		expectApply(t, n, want, start(station), want)
		expectApply(t, n, want, stop(station), d)
	}
	for _, station := range strangers(3) {
		for _, at := range []api.Desk{ready(n), d, flowing()} {
			expectRefused(t, n, at, start(station), api.ErrUnknown)
			expectRefused(t, n, at, stop(station), api.ErrUnknown)
		}
	}
	// What leaves only through a port can be pumped, too.
	at := applied(t, n, ready(n), grow(1, 0, 1))
	applied(t, n, at, start(2))
	expectRefused(t, n, at, start(0), api.ErrStep)
}

// P26.2: all valves move, each one as it wants to and if it does not stick.
func TestWait(t *testing.T) {
	n := fork()
	d := flowing()
	d.Valves[4] = api.Valve{Travel: 60, Want: true}
	d.Valves[9] = api.Valve{Travel: 60, Open: 60}
	d.Valves[10] = api.Valve{Travel: 60, Open: 30, Want: true, Stuck: true}
	d.Valves[11] = api.Valve{Travel: 60, Open: 20, Want: true}
	d.Valves[0].Stuck = true
	for ticks := 1; ticks <= 100; ticks++ {
		want := cloned(d)
		want.Valves[4].Open = min(ticks, 60)
		want.Valves[9].Open = max(60-ticks, 0)
		want.Valves[11].Open = min(20+ticks, 60)
		expectApply(t, n, d, pass(ticks), want)
	}
	for _, ticks := range []int{0, 101, 102, 400, 401, -1, -100, math.MinInt, math.MaxInt} {
		expectRefused(t, n, d, pass(ticks), api.ErrRange)
		expectRefused(t, n, ready(n), pass(ticks), api.ErrRange)
	}
	for _, n := range []api.Network{build(1, nil), build(2, [][2]int{{0, 1}})} {
		expectApply(t, n, ready(n), pass(100), ready(n))
		expectRefused(t, n, ready(n), pass(0), api.ErrRange)
	}
}

// P26.2: there are six kinds of steps; the number of another kind, and then a field that a kind does not use, are refused ahead of its other errors.
func TestKinds(t *testing.T) {
	n := fork()
	d := flowing()
	for _, kind := range []int{0, 7, 8, -1, -6, 1000, math.MinInt, math.MaxInt} {
		for _, s := range []api.Step{{}, open(1), pass(1), pass(0), grow(1, 0, 2, 0, 1), open(99)} {
			s.Kind = kind
			expectRefused(t, n, d, s, api.ErrStep)
		}
	}
	fields := map[string]func(s *api.Step, x int){
		"Index": func(s *api.Step, x int) { s.Index = x },
		"Value": func(s *api.Step, x int) { s.Value = x },
		"In":    func(s *api.Step, x int) { s.Path.In = x },
		"Out":   func(s *api.Step, x int) { s.Path.Out = x },
		"Hops":  func(s *api.Step, x int) { s.Path.Hops = []api.Hop{{Segment: x}} },
		"None":  func(s *api.Step, x int) { s.Path.Hops = make([]api.Hop, 1) },
		"Rate":  func(s *api.Step, x int) { s.Path.Rate = x },
	}
	flow := []string{"Value", "In", "Out", "Hops", "None"}
	for _, x := range []struct {
		good, bad api.Step
		uses      []string
	}{
		{open(0), open(12), []string{"Index"}}, {shut(4), shut(-1), []string{"Index"}},
		{start(0), start(3), []string{"Index"}}, {stop(0), stop(-1), []string{"Index"}},
		{pass(3), pass(101), []string{"Value"}}, {grow(1, 0, 2, 0, 1), grow(1, 0, 2, 0), flow},
	} {
		applied(t, n, d, x.good)
		for name, set := range fields {
			for _, s := range []api.Step{x.good, x.bad} {
				for _, value := range []int{1, -1, 12, math.MinInt, math.MaxInt} {
					if slices.Contains(x.uses, name) {
						continue
					}
					s := s
					set(&s, value)
					expectRefused(t, n, d, s, api.ErrStep)
				}
			}
		}
	}
	// A list without elements is zero, too.
	for _, s := range []api.Step{open(0), shut(4), start(0), stop(1), pass(3)} {
		s.Path.Hops = []api.Hop{}
		applied(t, n, d, s)
	}
}

// P26.3: the sum of the waits that last from 1 to 100 ticks, whatever else there is.
func TestTicks(t *testing.T) {
	for _, x := range []struct {
		l    []api.Step
		want int
	}{
		{nil, 0}, {[]api.Step{}, 0},
		{[]api.Step{pass(1)}, 1}, {[]api.Step{pass(100)}, 100},
		{[]api.Step{pass(0), pass(101), pass(-1), pass(-100), pass(math.MinInt), pass(math.MaxInt)}, 0},
		{[]api.Step{pass(7), open(3), pass(101), grow(50, 0, 2, 0, 1), pass(100), {Kind: 7, Value: 5}, {Value: 5}, pass(7)}, 114},
		{[]api.Step{grow(5, 0, 2), {Kind: api.StepOpen, Value: 6}, {Kind: api.StepStop, Value: 7}, {Kind: api.StepClose, Value: 8}, {Kind: api.StepStart, Value: 9}}, 0},
		{slices.Repeat([]api.Step{pass(100)}, 400), 40000},
		{slices.Repeat([]api.Step{pass(99), stop(1)}, 100000), 9900000},
	} {
		if got := Ticks(x.l); got != x.want {
			t.Errorf("Ticks of %.999s = %d, want %d", text(x.l), got, x.want)
		}
	}
}
