package flow

import (
	"math"
	"slices"
	"testing"

	"batchline/api"
)

// expectOrder checks the order of a plan in which ports, one at each node in turn, take up what is over.
func expectOrder(t *testing.T, nodes int, ends [][2]int, rates []int, want ...int) {
	t.Helper()
	n, p := fed(nodes, ends, rates)
	if got, e := Order(n, p); !slices.Equal(got, want) || e != api.OK {
		t.Errorf("Order of %v over %v = %v, %d, want %v", rates, ends, got, e, want)
	}
}

// fed is a network with a port at each node, and a plan with these rates that is balanced by them.
func fed(nodes int, ends [][2]int, rates []int) (api.Network, api.Plan) {
	ports := make([]int, nodes)
	p := api.Plan{Rates: rates, Ports: make([]int, nodes)}
	for node := range ports {
		ports[node] = node
	}
	for i, pair := range ends {
		p.Ports[pair[0]] += rates[i]
		p.Ports[pair[1]] -= rates[i]
	}
	return build(nodes, ends, ports...), p
}

// P16.2: the least node that can be next is the next one, also one that could not be before.
func TestOrder(t *testing.T) {
	expectOrder(t, 1, nil, nil, 0)
	expectOrder(t, 4, nil, nil, 0, 1, 2, 3)
	line := [][2]int{{0, 1}, {1, 2}, {2, 3}}
	expectOrder(t, 4, line, []int{0, 0, 0}, 0, 1, 2, 3)
	expectOrder(t, 4, line, []int{1, 1, 1}, 0, 1, 2, 3)
	expectOrder(t, 4, line, []int{-1, -1, -1}, 3, 2, 1, 0)
	expectOrder(t, 4, line, []int{-1, 0, 0}, 1, 0, 2, 3)
	expectOrder(t, 4, line, []int{0, -1, 0}, 0, 2, 1, 3)
	expectOrder(t, 4, line, []int{0, 0, -1}, 0, 1, 3, 2)
	expectOrder(t, 4, line, []int{1, -1, 1}, 0, 2, 1, 3)
	expectOrder(t, 4, line, []int{-1, 1, -1}, 1, 0, 3, 2)
	expectOrder(t, 4, line, []int{-1, -1, 1}, 2, 1, 0, 3)
	expectOrder(t, 4, line, []int{-1, -1, 0}, 2, 1, 0, 3)
	// Neither by the number of hops from where it comes in, nor behind the node that was last.
	expectOrder(t, 5, [][2]int{{0, 4}, {4, 1}, {0, 2}, {2, 3}}, []int{1, 1, 1, 1}, 0, 2, 3, 4, 1)
	expectOrder(t, 6, [][2]int{{5, 0}, {4, 1}, {3, 2}}, []int{3, 3, 3}, 3, 2, 4, 1, 5, 0)
	expectOrder(t, 6, [][2]int{{5, 0}, {0, 4}, {3, 2}}, []int{3, 3, -3}, 1, 2, 3, 5, 0, 4)
}

// P16.2: a node comes behind all from which something flows to it, over several segments between the same nodes, too.
func TestOrderAllBefore(t *testing.T) {
	star := [][2]int{{1, 0}, {2, 0}, {0, 3}, {4, 0}}
	expectOrder(t, 5, star, []int{1, 1, 1, 1}, 1, 2, 4, 0, 3)
	expectOrder(t, 5, star, []int{1, 0, -1, 0}, 1, 2, 3, 0, 4)
	expectOrder(t, 5, star, []int{-1, -1, 1, 1}, 4, 0, 1, 2, 3)
	double := [][2]int{{0, 2}, {2, 0}, {1, 0}, {0, 1}}
	expectOrder(t, 3, double, []int{1, -2, 3, -4}, 1, 0, 2)
	expectOrder(t, 3, double, []int{1, -2, -3, 4}, 0, 1, 2)
	expectOrder(t, 3, double, []int{-1, 2, 0, 4}, 2, 0, 1)
	expectOrder(t, 3, double, []int{-1, 0, 3, 0}, 1, 2, 0)
}

// P16.2: a chain of all nodes, from either end.
func TestOrderChain(t *testing.T) {
	var ends [][2]int
	var up, down []int
	for i := range api.MaxNodes {
		up, down = append(up, i), append(down, api.MaxNodes-1-i)
		if i > 0 {
			ends = append(ends, [2]int{i - 1, i})
		}
	}
	expectOrder(t, api.MaxNodes, ends, slices.Repeat([]int{1000}, len(ends)), up...)
	expectOrder(t, api.MaxNodes, ends, slices.Repeat([]int{-1}, len(ends)), down...)
}

// P16.2: what comes to a node, over segments in both directions and by several ports.
func TestThrough(t *testing.T) {
	n := build(5, [][2]int{{0, 1}, {2, 1}, {1, 3}, {3, 0}, {1, 0}}, 0, 1, 1, 2, 3, 0, 4, 4)
	// Comes to 0: 30 by a port; to 1: 10 of 0, 15 of 2, 4 and 6 by ports; to 2: 15; to 3: 12 of 0, 35 of 1; to 4: 9 by a port.
	p := plan([]int{10, 15, 35, -12, 0}, 30, 4, 6, 15, -47, -8, 9, -9)
	expectPlan(t, n, p, []int{0, 2, 1, 3, 4}, []int{30, 35, 15, 47, 9}, 64)
	// To 1, nothing comes but by its ports, of which one flows out.
	p = plan([]int{0, 0, 3, 0, 5}, -5, 100, -92, 0, -3, 0, 0, 0)
	expectPlan(t, n, p, []int{1, 0, 2, 3, 4}, []int{5, 100, 0, 3, 0}, 100)
}

// P16.2: nodes that there are not.
func TestThroughUnknown(t *testing.T) {
	n := example()
	for _, p := range []api.Plan{plan([]int{7, 3, -10}, 10, -10), plan([]int{0, 0, 0}, 0, 0)} {
		for _, node := range []int{-1, 3, 4, -3, api.MaxNodes - 1, api.MaxNodes, -api.MaxNodes, 1 << 32, math.MinInt, math.MaxInt} {
			if litres, e := Through(n, p, node); litres != 0 || e != api.ErrUnknown {
				t.Errorf("Through at %d = %d, %d", node, litres, e)
			}
		}
	}
	full, p, _ := greatest()
	for _, node := range []int{-1, api.MaxNodes, api.MaxNodes + 1} {
		if litres, e := Through(full, p, node); litres != 0 || e != api.ErrUnknown {
			t.Errorf("Through at %d of the greatest network = %d, %d", node, litres, e)
		}
	}
}

// P16.2: all ports, also two at a node of which one flows in and the other one out.
func TestFeeds(t *testing.T) {
	n := build(3, [][2]int{{0, 1}, {1, 2}}, 0, 0, 1, 1, 2, 2)
	for i, x := range []struct {
		p    api.Plan
		want int
	}{
		{plan([]int{0, 0}, 0, 0, 0, 0, 0, 0), 0},
		{plan([]int{0, 0}, 5, -5, 0, 0, 0, 0), 5},
		{plan([]int{0, 0}, 1000, -1000, -1000, 1000, 1000, -1000), 3000},
		{plan([]int{9, 9}, 9, 0, 0, 0, 0, -9), 9},
		{plan([]int{-9, 9}, -4, -5, 7, 11, -6, -3), 18},
		{plan([]int{1000, 1000}, 999, 1, -1000, 1000, -1000, 0), 2000},
	} {
		if in, out, e := Feeds(n, x.p); in != x.want || out != x.want || e != api.OK {
			t.Errorf("%d: Feeds = %d, %d, %d, want %d", i, in, out, e, x.want)
		}
	}
}

// P16.1, P16.2: stations and their pumps, pressures and profiles do not matter.
func TestPumpsDoNotMatter(t *testing.T) {
	n := example()
	n.Stations = []api.Station{{Name: "p", Node: 0, Suction: api.MaxPressure}, {Name: "q", Node: 2}}
	for pumps := range 4 {
		p := api.Plan{Rates: []int{7, 3, -10}, Ports: []int{10, -10}, Pumps: []bool{pumps&1 == 1, pumps&2 == 2}}
		expectPlan(t, n, p, []int{0, 1, 2}, []int{10, 10, 10}, 10)
		p.Rates = []int{7, 3, -9}
		expectError(t, n, p, api.ErrBalance)
	}
}

// R2: arguments are neither changed nor kept, and results share no memory.
func TestMemory(t *testing.T) {
	n := example()
	n.Stations = []api.Station{{Name: "p", Node: 1}}
	rates, ports, pumps := []int{77, 7, 3, -10, 88}, []int{66, 10, -10, 99}, []bool{true, false, true}
	p := api.Plan{Rates: rates[1:4], Ports: ports[1:3], Pumps: pumps[1:2]}
	first, _ := Order(n, p)
	second, _ := Order(n, p)
	first = first[:cap(first)]
	for i := range first {
		first[i] = 55
	}
	if !slices.Equal(second, []int{0, 1, 2}) {
		t.Errorf("two orders share memory: %v", second)
	}
	expectPlan(t, n, p, []int{0, 1, 2}, []int{10, 10, 10}, 10)
	if !slices.Equal(rates, []int{77, 7, 3, -10, 88}) || !slices.Equal(ports, []int{66, 10, -10, 99}) || !slices.Equal(pumps, []bool{true, false, true}) {
		t.Errorf("arguments became %v, %v, %v", rates, ports, pumps)
	}
	rates[1], ports[1] = 8, 11
	if !slices.Equal(second, []int{0, 1, 2}) {
		t.Errorf("an order became %v with its plan", second)
	}
}
