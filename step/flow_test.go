package step

import (
	"math"
	"slices"
	"testing"

	"batchline/api"
)

// at returns a desk of fork on which the valves are open, with these rates and ports.
func at(rates, ports []int) api.Desk {
	d := ready(fork())
	d.Plan.Rates, d.Plan.Ports = rates, ports
	return d
}

// P26.2: a flow grows over segments either way, and beside others; ports at one node need none.
func TestFlow(t *testing.T) {
	n := fork()
	zero := ready(n)
	for _, x := range []struct {
		s            api.Step
		rates, ports []int
	}{
		{grow(10, 0, 2, 0, 1), []int{10, 10, 0, 0, 0}, []int{10, 0, -10, 0, 0, 0, 0}},
		{grow(10, 2, 0, -2, -1), []int{-10, -10, 0, 0, 0}, []int{-10, 0, 10, 0, 0, 0, 0}},
		{grow(1, 1, 2, 0, 2, 3), []int{1, 0, 1, 1, 0}, []int{0, 1, -1, 0, 0, 0, 0}},
		{grow(20, 6, 4, -5), []int{0, 0, 0, 0, -20}, []int{0, 0, 0, 0, -20, 0, 20}},
		{grow(1000, 4, 3, -4), []int{0, 0, 0, -1000, 0}, []int{0, 0, 0, -1000, 1000, 0, 0}},
		{grow(1000, 1, 0), []int{0, 0, 0, 0, 0}, []int{-1000, 1000, 0, 0, 0, 0, 0}},
	} {
		want := at(x.rates, x.ports)
		expectApply(t, n, zero, x.s, want)
		// Valves that the path does not pass may be anywhere.
		a, b := cloned(zero), cloned(want)
		for i, v := range []api.Valve{{Travel: 9}, {Travel: 9, Want: true}, {Travel: 9, Open: 9}, {Travel: 9, Open: 5, Want: true, Stuck: true}} {
			for number := i; number < valves(n); number += 4 {
				if slices.Concat(x.rates, x.ports)[number] == 0 {
					a.Valves[number], b.Valves[number] = v, v
				}
			}
		}
		expectApply(t, n, a, x.s, b)
		// The consequence: what has grown can fall by it again.
		back := x.s
		back.Value = -back.Value
		expectApply(t, n, b, back, a)
	}
	d := flowing()
	want := cloned(d)
	want.Plan.Rates, want.Plan.Ports = []int{37, 22, 15, 8, 0}, []int{20, 17, -30, -7, 0, 0, 0}
	expectApply(t, n, d, grow(7, 1, 2, 0, 1), want)
	want.Plan.Rates, want.Plan.Ports = []int{22, 15, 7, 0, 0}, []int{12, 10, -15, -7, 0, 0, 0}
	expectApply(t, n, d, grow(-8, 0, 2, 0, 2, 3), want)
}

// P26.2: a flow falls, to nothing at the least, by any path that flows, not only those by which it has grown.
func TestFlowFalls(t *testing.T) {
	n := fork()
	d := applied(t, n, ready(n), grow(10, 0, 2, 0, 1), grow(10, 1, 3, 0, 2))
	want := at([]int{20, 10, 10, 0, 0}, []int{4, 10, -10, -4, 0, 0, 0})
	want.Plan.Rates = []int{14, 10, 4, 0, 0}
	expectApply(t, n, d, grow(-6, 0, 3, 0, 2), want)
	expectApply(t, n, d, grow(-10, 1, 2, 0, 1), at([]int{10, 0, 10, 0, 0}, []int{10, 0, 0, -10, 0, 0, 0}))
	for _, s := range []api.Step{grow(-11, 0, 2, 0, 1), grow(-11, 1, 3, 0, 2), grow(-1, 0, 2, 0, 2, 3), grow(-1, 0, 1), grow(-1, 5, 2, 1), grow(-1, 0, 5, 0), grow(-1000, 0, 2, 0, 1)} {
		expectRefused(t, n, d, s, api.ErrStep)
	}
	none := applied(t, n, d, grow(-10, 0, 2, 0, 1), grow(-10, 1, 3, 0, 2))
	if !same(none, ready(n)) {
		t.Errorf("nothing that flows is %v", none)
	}
}

// P26.2: each rate of the path alone may be the one that would fall below 0, of In, Out, and any segment.
func TestFlowBelow(t *testing.T) {
	n := build(3, [][2]int{{0, 1}, {2, 1}}, 0, 0, 1, 1, 2, 2)
	path := func(value int) api.Step { return grow(value, 0, 4, 0, -2) }
	for _, x := range []struct{ rates, ports []int }{
		{[]int{9, -9}, []int{5, 4, 0, 0, -9, 0}},
		{[]int{9, -9}, []int{9, 0, 0, 0, -5, -4}},
		{[]int{5, -9}, []int{9, -4, 4, 0, -9, 0}},
		{[]int{9, -5}, []int{9, 0, -4, 0, -9, 4}},
	} {
		d := ready(n)
		d.Plan.Rates, d.Plan.Ports = x.rates, x.ports
		expectRefused(t, n, d, path(-6), api.ErrStep)
		less := applied(t, n, d, path(-5))
		expectRefused(t, n, less, path(-1), api.ErrStep)
		for i := range 4 {
			if left := abs(slices.Concat(less.Plan.Rates, less.Plan.Ports)[[]int{0, 1, 2, 6}[i]]); left != 0 && left != 4 {
				t.Errorf("%d is left of a rate", left)
			}
		}
	}
}

// abs is the amount of a rate.
func abs(rate int) int { return max(rate, -rate) }

// P26.2: no step flows against a segment, or against one of its ports, not even by more than flows there.
func TestFlowAgainst(t *testing.T) {
	n := fork()
	d := flowing()
	for _, value := range []int{1, 5, 7, 8, 15, 30, 31, 100, 1000, -1, -5, -15, -30} {
		for _, s := range []api.Step{
			grow(value, 4, 3, -4), grow(value, 4, 5, -2), grow(value, 5, 0, -1), grow(value, 4, 5, -4, -3), // segments
			grow(value, 2, 4), grow(value, 3, 2, 3), grow(value, 2, 5, 4), // In flows out
			grow(value, 5, 0, -1), grow(value, 0, 1), grow(value, 1, 0), // Out flows in
		} {
			expectRefused(t, n, d, s, api.ErrStep)
		}
	}
	for _, value := range []int{1, 2, 3, 4, 100} {
		out, in := at([]int{0, 0, 0, 0, 0}, []int{0, 0, -3, 0, 3, 0, 0}), at([]int{0, 0, 0, 0, 0}, []int{3, -3, 0, 0, 0, 0, 0})
		expectRefused(t, n, out, grow(value, 2, 3, -4), api.ErrStep)
		expectRefused(t, n, out, grow(value, 3, 4, 3), api.ErrStep)
		expectRefused(t, n, in, grow(value, 5, 0, -1), api.ErrStep)
		expectRefused(t, n, in, grow(value, 1, 5, 0), api.ErrStep)
		applied(t, n, out, grow(value, 3, 2, 3))
		applied(t, n, in, grow(value, 0, 5, 0))
	}
}

// P26.2: each valve of the path has to be open, and to want it, also if the flow falls.
func TestFlowValves(t *testing.T) {
	n := fork()
	for _, x := range []struct {
		s       api.Step
		numbers []int
	}{{grow(3, 0, 2, 0, 2, 3), []int{0, 2, 3, 5, 7}}, {grow(3, 2, 1, -4, -3, -1), []int{0, 2, 3, 6, 7}}, {grow(3, 4, 2), []int{7, 9}}} {
		for number := range valves(n) {
			for _, v := range []api.Valve{{Travel: 4, Open: 3, Want: true}, {Travel: 4, Open: 4}, {Travel: 4, Want: true}, {Travel: 4}, {Travel: 60, Open: 59, Want: true, Stuck: true}, {Travel: 4, Open: 4, Stuck: true}} {
				d := ready(n)
				d.Valves[number] = v
				if slices.Contains(x.numbers, number) {
					expectRefused(t, n, d, x.s, api.ErrStep)
				} else {
					applied(t, n, d, x.s)
				}
			}
			d := ready(n)
			d.Valves[number] = api.Valve{Travel: 60, Open: 60, Want: true, Stuck: true}
			applied(t, n, d, x.s)
		}
	}
}

// P26.2: a path that is not valid with the amount of Value as its Rate.
func TestFlowPath(t *testing.T) {
	n := fork()
	for _, s := range []api.Step{
		grow(1, 0, 0), grow(1, 0, 7, 0, 1), grow(1, -1, 2, 0, 1), grow(1, math.MinInt, 2, 0, 1), grow(1, 0, math.MaxInt, 0, 1),
		grow(1, 0, 2), grow(1, 0, 2, 0), grow(1, 0, 2, 1), grow(1, 0, 2, 0, 1, 1), grow(1, 0, 2, 0, -2), grow(1, 0, 2, -1, 1), grow(1, 0, 3, 0, 1),
		grow(1, 0, 2, 0, 5), grow(1, 0, 2, 0, -6), grow(1, 0, 2, math.MaxInt), grow(1, 0, 2, math.MinInt),
		grow(1, 0, 2, 0, 1, 4, 1), grow(1, 0, 1, 0, -1), grow(1, 2, 4, -2, -5),
		grow(1, 0, 2, slices.Repeat([]int{0, -1}, 20)...), grow(1, 0, 2, slices.Repeat([]int{1, 4}, 50000)...),
	} {
		for _, d := range []api.Desk{ready(n), flowing()} {
			expectRefused(t, n, d, s, api.ErrPath)
			s.Value = -s.Value
			expectRefused(t, n, d, s, api.ErrPath)
		}
	}
	for _, value := range []int{0, 1001, -1001, 1 << 20, math.MinInt, math.MinInt + 1, math.MaxInt} {
		expectRefused(t, n, ready(n), grow(value, 0, 2, 0, 1), api.ErrPath)
		expectRefused(t, n, flowing(), grow(value, 0, 2, 0, 1), api.ErrPath)
		expectRefused(t, n, ready(n), grow(value, 0, 1), api.ErrPath)
	}
}

// P26.2: the new plan keeps the greatest rates, of segments, of their capacity, and of ports.
func TestFlowRange(t *testing.T) {
	n := fork()
	d := applied(t, n, ready(n), grow(400, 0, 2, 0, 1), grow(500, 1, 2, 0, 1))
	applied(t, n, d, grow(100, 0, 2, 0, 1))
	expectRefused(t, n, d, grow(101, 0, 2, 0, 1), api.ErrRange)
	applied(t, n, d, grow(100, 0, 5, 0))
	expectRefused(t, n, d, grow(101, 0, 5, 0), api.ErrRange) // the segment alone
	applied(t, n, d, grow(100, 6, 2, 1))
	expectRefused(t, n, d, grow(101, 6, 2, 1), api.ErrRange) // the segment and Out
	applied(t, n, d, grow(100, 3, 2, 3))
	expectRefused(t, n, d, grow(101, 3, 2, 3), api.ErrRange) // Out alone
	applied(t, n, d, grow(1000, 3, 4, 3))
	expectRefused(t, n, applied(t, n, ready(n), grow(900, 0, 1)), grow(101, 0, 5, 0), api.ErrRange) // In alone
	for _, value := range []int{20, 21, 1000} {
		for _, s := range []api.Step{grow(value, 4, 6, 4), grow(value, 6, 4, -5)} {
			if value <= 20 {
				small := applied(t, n, ready(n), s)
				s.Value = 1
				expectRefused(t, n, small, s, api.ErrRange)
			} else {
				expectRefused(t, n, ready(n), s, api.ErrRange)
			}
		}
	}
}

// P26.2: no step lets something flow in a circle.
func TestFlowCycle(t *testing.T) {
	n := fork()
	back := grow(3, 4, 5, 4)
	for _, s := range []api.Step{grow(1, 0, 2, 0, 1), grow(1, 0, 2, 0, 2, 3)} {
		d := applied(t, n, ready(n), s)
		expectRefused(t, n, d, back, api.ErrCycle)
		s.Value = -1
		applied(t, n, applied(t, n, d, s), back)
	}
	expectRefused(t, n, applied(t, n, ready(n), back), grow(1, 0, 2, 0, 2, 3), api.ErrCycle)
	applied(t, n, applied(t, n, ready(n), back), grow(1, 0, 3, 0, 2), grow(1, 0, 6, 0))
	applied(t, n, ready(n), grow(3, 4, 5, -2), grow(3, 4, 5, 4), grow(3, 4, 5, -4, -3))
}

// P26.2: a flow cannot fall to nothing at the node of a station that runs.
func TestFlowStations(t *testing.T) {
	n := fork()
	d := applied(t, n, ready(n), grow(5, 0, 2, 0, 2, 3), grow(5, 1, 2, 0, 1), start(1))
	expectRefused(t, n, d, grow(-5, 0, 2, 0, 2, 3), api.ErrStep)
	applied(t, n, d, grow(-4, 0, 2, 0, 2, 3))
	applied(t, n, d, grow(-5, 1, 2, 0, 1))
	applied(t, n, d, stop(1), grow(-5, 0, 2, 0, 2, 3))
	// What flows there in another way keeps it running.
	applied(t, n, applied(t, n, d, grow(2, 5, 3, 2)), grow(-5, 0, 2, 0, 2, 3))
	all := applied(t, n, d, start(0), start(2), grow(-5, 1, 2, 0, 1))
	for running := range 3 {
		one := all
		for station := range 3 {
			if station != running {
				one = applied(t, n, one, stop(station))
			}
		}
		expectRefused(t, n, one, grow(-5, 0, 2, 0, 2, 3), api.ErrStep)
		expectApply(t, n, applied(t, n, one, stop(running)), grow(-5, 0, 2, 0, 2, 3), ready(n))
	}
}

// P26.2: the errors of a flow ahead of each other.
func TestFlowOrder(t *testing.T) {
	n := fork()
	closed := func(numbers ...int) api.Desk {
		d := ready(n)
		for _, number := range numbers {
			d.Valves[number] = api.Valve{Travel: 4}
		}
		return d
	}
	// A path that is not valid comes ahead of its valves, of falling below 0, of what flows against it, and of the new plan.
	expectRefused(t, n, closed(0), grow(1, 0, 2, 0), api.ErrPath)
	expectRefused(t, n, closed(0), grow(1001, 0, 2, 0, 1), api.ErrPath)
	expectRefused(t, n, ready(n), grow(-1, 0, 2, 0), api.ErrPath)
	expectRefused(t, n, flowing(), grow(1, 2, 4, -4), api.ErrPath)
	expectRefused(t, n, flowing(), grow(1001, 0, 1, 0), api.ErrPath)
	// A valve comes ahead of the new plan.
	expectRefused(t, n, closed(4), grow(21, 4, 5, 4), api.ErrStep)
	expectRefused(t, n, closed(9), grow(21, 4, 5, 4), api.ErrStep)
	expectRefused(t, n, closed(10), grow(21, 4, 5, 4), api.ErrStep)
	// What falls below 0 comes ahead of the new plan, in which it would flow the other way, too much, or in a circle.
	expectRefused(t, n, ready(n), grow(-21, 4, 5, 4), api.ErrStep)
	expectRefused(t, n, applied(t, n, ready(n), grow(1, 0, 2, 0, 1)), grow(-1, 5, 4, -5), api.ErrStep)
	// So does what flows against it.
	against := applied(t, n, ready(n), grow(20, 6, 4, -5))
	expectRefused(t, n, against, grow(41, 4, 5, 4), api.ErrStep)
	expectRefused(t, n, against, grow(1, 4, 5, 4), api.ErrStep)
	// Too much comes ahead of a circle.
	expectRefused(t, n, applied(t, n, ready(n), grow(1, 0, 2, 0, 1)), grow(21, 4, 5, 4), api.ErrRange)
}
