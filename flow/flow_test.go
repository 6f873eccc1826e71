package flow

import (
	"math"
	"slices"
	"strconv"
	"testing"

	"batchline/api"
	"batchline/network"
)

// build is a network of so many nodes, with segments between these ones and ports at these.
func build(nodes int, ends [][2]int, ports ...int) api.Network {
	n := api.Network{Nodes: make([]string, nodes)}
	for i := range n.Nodes {
		n.Nodes[i] = "node-" + strconv.Itoa(i)
	}
	for i, pair := range ends {
		s := api.Segment{Name: "pipe-" + strconv.Itoa(i), From: pair[0], To: pair[1], Capacity: 5000}
		s.Points = []api.Point{{Limit: 900000}, {At: s.Capacity, Limit: 900000}}
		n.Segments = append(n.Segments, s)
	}
	for i, node := range ports {
		n.Ports = append(n.Ports, api.Port{Name: "port-" + strconv.Itoa(i), Node: node})
	}
	return n
}

// plan is one without stations.
func plan(rates []int, ports ...int) api.Plan { return api.Plan{Rates: rates, Ports: ports} }

// example is the network of the chapter's example.
func example() api.Network { return build(3, [][2]int{{0, 1}, {0, 1}, {2, 1}}, 0, 2) }

// expectError checks that all functions have an error, and no other result.
func expectError(t *testing.T, n api.Network, p api.Plan, want api.Errno) {
	t.Helper()
	if e := Check(n, p); e != want {
		t.Errorf("Check of %v in %v = %d, want %d", p, n.Segments, e, want)
	}
	if order, e := Order(n, p); len(order) > 0 || e != want {
		t.Errorf("Order of %v in %v = %v, %d, want the error %d", p, n.Segments, order, e, want)
	}
	for _, node := range []int{0, len(n.Nodes) - 1, -1, len(n.Nodes), math.MinInt, math.MaxInt} {
		if litres, e := Through(n, p, node); litres != 0 || e != want {
			t.Errorf("Through of %v in %v at %d = %d, %d, want the error %d", p, n.Segments, node, litres, e, want)
		}
	}
	if in, out, e := Feeds(n, p); in != 0 || out != 0 || e != want {
		t.Errorf("Feeds of %v in %v = %d, %d, %d, want the error %d", p, n.Segments, in, out, e, want)
	}
}

// expectPlan checks that a plan is valid, with this order, what comes to each node, and what flows into the network.
func expectPlan(t *testing.T, n api.Network, p api.Plan, order, comes []int, feed int) {
	t.Helper()
	if e := Check(n, p); e != api.OK {
		t.Errorf("Check of %v in %v = %d", p, n.Segments, e)
	}
	if got, e := Order(n, p); !slices.Equal(got, order) || e != api.OK {
		t.Errorf("Order of %v in %v = %v, %d, want %v", p, n.Segments, got, e, order)
	}
	for node, want := range comes {
		if got, e := Through(n, p, node); got != want || e != api.OK {
			t.Errorf("Through of %v in %v at %d = %d, %d, want %d", p, n.Segments, node, got, e, want)
		}
	}
	if in, out, e := Feeds(n, p); in != feed || out != feed || e != api.OK {
		t.Errorf("Feeds of %v in %v = %d, %d, %d, want %d", p, n.Segments, in, out, e, feed)
	}
}

// P16.1, P16.2: the examples of the chapter.
func TestExamples(t *testing.T) {
	n := example()
	expectPlan(t, n, plan([]int{7, 3, -10}, 10, -10), []int{0, 1, 2}, []int{10, 10, 10}, 10)
	expectPlan(t, n, plan([]int{-7, -3, 10}, -10, 10), []int{2, 1, 0}, []int{10, 10, 10}, 10)
	expectError(t, n, plan([]int{7, -3, -4}, 4, -4), api.ErrCycle)
	expectError(t, n, plan([]int{7, 3, -9}, 10, -10), api.ErrBalance)
}

// P16.1: the errors of networks come before all others.
func TestCheckNetwork(t *testing.T) {
	for want, f := range map[api.Errno]func(n *api.Network){
		api.ErrLimit:   func(n *api.Network) { n.Segments[2].Points = nil },
		api.ErrForm:    func(n *api.Network) { n.Ports[1].Name = "" },
		api.ErrTwice:   func(n *api.Network) { n.Nodes[2] = n.Nodes[0] },
		api.ErrUnknown: func(n *api.Network) { n.Segments[0].To = 3 },
		api.ErrInvalid: func(n *api.Network) { n.Settle = -1 },
	} {
		n := example()
		f(&n)
		for _, p := range []api.Plan{{}, plan([]int{7, 3, -10}, 10, -10), plan([]int{7, 3, -9}, 2000, -10), plan([]int{7, -3, -4}, 4, -4)} {
			expectError(t, n, p, want)
		}
	}
	expectError(t, api.Network{}, api.Plan{}, api.ErrLimit)
	outside := example()
	outside.Ports[0].Node = -1
	expectError(t, outside, plan([]int{7, 3, -10}, 10, -10), api.ErrUnknown)
	outside.Ports[0].Node = 1000
	expectError(t, outside, plan([]int{7, 3, -10}, 10, -10), api.ErrUnknown)
}

// P16.1: a plan has as many rates, ports and pumps as there are segments, ports and stations.
func TestCheckLists(t *testing.T) {
	n := example()
	n.Stations = []api.Station{{Name: "p", Node: 1}, {Name: "q", Node: 0}}
	right := api.Plan{Rates: []int{7, 3, -10}, Ports: []int{10, -10}, Pumps: []bool{true, false}}
	expectPlan(t, n, right, []int{0, 1, 2}, []int{10, 10, 10}, 10)
	for _, rates := range [][]int{nil, {}, {10}, {7, 3}, {7, 3, -10, 0}, {2000, 0}} {
		p := right
		p.Rates = rates
		expectError(t, n, p, api.ErrInvalid)
	}
	for _, ports := range [][]int{nil, {}, {0}, {10, -10, 0}, {2000}, make([]int, 100000)} {
		p := right
		p.Ports = ports
		expectError(t, n, p, api.ErrInvalid)
	}
	for _, pumps := range [][]bool{nil, {}, {true}, {true, false, false}} {
		p := right
		p.Pumps = pumps
		expectError(t, n, p, api.ErrInvalid)
	}
	shifted := right
	shifted.Rates, shifted.Ports = []int{7, 3}, []int{10, -10, 0}
	expectError(t, n, shifted, api.ErrInvalid)
	expectError(t, n, api.Plan{}, api.ErrInvalid)
}

// P16.1: a list that is nil is one without elements.
func TestCheckEmpty(t *testing.T) {
	for _, n := range []api.Network{{Nodes: []string{"a"}}, build(1, nil), build(1, [][2]int{})} {
		expectPlan(t, n, api.Plan{}, []int{0}, []int{0}, 0)
		expectPlan(t, n, api.Plan{Rates: []int{}, Ports: []int{}, Pumps: []bool{}}, []int{0}, []int{0}, 0)
		expectError(t, n, plan([]int{0}), api.ErrInvalid)
		expectError(t, n, plan(nil, 0), api.ErrInvalid)
		expectError(t, n, api.Plan{Pumps: []bool{false}}, api.ErrInvalid)
	}
}

// sized is the network of a pipe of this capacity between two ports.
func sized(capacity int) api.Network {
	n := build(2, [][2]int{{0, 1}}, 0, 1)
	n.Segments[0].Capacity = capacity
	n.Segments[0].Points[1].At = capacity
	return n
}

// P16.1: the rate of a segment is at most MaxRate, and at most its Capacity.
func TestCheckRates(t *testing.T) {
	for _, x := range [][2]int{{1, 1}, {2, 2}, {17, 17}, {999, 999}, {1000, 1000}, {1001, 1000}, {5000, 1000}, {api.MaxCapacity, 1000}} {
		n, most := sized(x[0]), x[1]
		for _, rate := range []int{0, 1, most - 1, most} {
			from, to := []int{0, 1}, []int{1, 0}
			expectPlan(t, n, plan([]int{rate}, rate, -rate), from, []int{rate, rate}, rate)
			if rate > 0 {
				expectPlan(t, n, plan([]int{-rate}, -rate, rate), to, []int{rate, rate}, rate)
			}
		}
		for _, rate := range []int{most + 1, -most - 1, x[0] + 1, -x[0] - 1, 1 << 40, math.MaxInt, math.MaxInt - 1, math.MinInt, math.MinInt + 1} {
			expectError(t, n, plan([]int{rate}, rate, -rate), api.ErrRange)
			expectError(t, n, plan([]int{rate}, most, -most), api.ErrRange)
			expectError(t, n, plan([]int{rate}, 0, 0), api.ErrRange)
		}
	}
}

// P16.1: the capacity that limits a rate is that of its own segment.
func TestCheckOwnCapacity(t *testing.T) {
	n := build(2, [][2]int{{0, 1}, {0, 1}, {1, 0}}, 0, 1)
	for i, capacity := range []int{5, 50, 500} {
		n.Segments[i].Capacity = capacity
		n.Segments[i].Points[1].At = capacity
	}
	expectPlan(t, n, plan([]int{5, 50, -500}, 555, -555), []int{0, 1}, []int{555, 555}, 555)
	expectPlan(t, n, plan([]int{-5, -50, 500}, -555, 555), []int{1, 0}, []int{555, 555}, 555)
	expectError(t, n, plan([]int{6, 50, -499}, 555, -555), api.ErrRange)
	expectError(t, n, plan([]int{4, 51, -500}, 555, -555), api.ErrRange)
	expectError(t, n, plan([]int{5, 49, -501}, 555, -555), api.ErrRange)
}

// P16.1: the rate of a port is at most MaxRate, whatever the segments at its node hold.
func TestCheckPorts(t *testing.T) {
	n := build(2, [][2]int{{0, 1}}, 0, 0, 1, 0)
	n.Segments[0].Capacity = 1
	n.Segments[0].Points[1].At = 1
	expectPlan(t, n, plan([]int{0}, 1000, -1000, 0, 0), []int{0, 1}, []int{1000, 0}, 1000)
	expectPlan(t, n, plan([]int{1}, 1000, -1000, -1, 1), []int{0, 1}, []int{1001, 1}, 1001)
	expectPlan(t, n, plan([]int{0}, 1000, -2, 0, -998), []int{0, 1}, []int{1000, 0}, 1000)
	for _, ports := range [][]int{
		{1001, -1000, 0, -1}, {-1001, 1000, 0, 1}, {1000, -1001, 0, 1}, {500, 501, 0, -1001}, {-500, -501, 0, 1001},
		{0, 0, 1001, 0}, {0, 0, 0, -1001}, {math.MaxInt, -math.MaxInt, 0, 0}, {math.MinInt, math.MinInt, 0, 0}, {math.MinInt, math.MaxInt, 0, 1},
	} {
		expectError(t, n, plan([]int{0}, ports...), api.ErrRange)
	}
}

// P16.1: as much comes to each node as leaves it; a litre more or less anywhere is an error.
func TestCheckBalance(t *testing.T) {
	n := build(4, [][2]int{{0, 1}, {2, 1}, {1, 3}, {0, 3}}, 0, 3, 2, 1)
	right := plan([]int{20, 30, 45, 6}, 26, -51, 30, -5)
	expectPlan(t, n, right, []int{0, 2, 1, 3}, []int{26, 50, 30, 51}, 56)
	for _, by := range []int{-1, 1, -400, 400} {
		for i := range right.Rates {
			p := plan(slices.Clone(right.Rates), right.Ports...)
			p.Rates[i] += by
			expectError(t, n, p, api.ErrBalance)
		}
		for i := range right.Ports {
			p := plan(right.Rates, slices.Clone(right.Ports)...)
			p.Ports[i] += by
			expectError(t, n, p, api.ErrBalance)
			// As much flows in as out, but elsewhere.
			p.Ports[(i+1)%4] -= by
			expectError(t, n, p, api.ErrBalance)
		}
	}
	expectError(t, n, plan([]int{0, 0, 0, 0}, 51, -51, 0, 0), api.ErrBalance)
	expectError(t, n, plan([]int{0, 0, 0, 0}, 0, 0, 0, 1), api.ErrBalance)
}

// P16.1: a balance at the last node, at one without segments, and of a segment without ports.
func TestCheckBalanceAtEnds(t *testing.T) {
	last := build(api.MaxNodes, [][2]int{{0, 22}}, 23, 23, 0)
	zeros := make([]int, api.MaxNodes)
	order := slices.Clone(zeros)
	for i := range order {
		order[i] = i
	}
	comes := slices.Clone(zeros)
	comes[23] = 8
	expectPlan(t, last, plan([]int{0}, 0, 0, 0), order, zeros, 0)
	expectPlan(t, last, plan([]int{0}, 8, -8, 0), order, comes, 8)
	expectError(t, last, plan([]int{0}, 8, -7, 0), api.ErrBalance)
	expectError(t, last, plan([]int{0}, 0, -7, 0), api.ErrBalance)
	expectError(t, last, plan([]int{5}, 0, 0, 5), api.ErrBalance)
	expectError(t, last, plan([]int{5}, 0, 0, 0), api.ErrBalance)
}

// circle is a network of so many nodes in a circle, and a port at each of the first two.
func circle(nodes int) api.Network {
	var ends [][2]int
	for i := range nodes {
		ends = append(ends, [2]int{i, (i + 1) % nodes})
	}
	return build(nodes, ends, 0, 1)
}

// P16.1: circles of all lengths, in both directions, with more flowing into them and out of them.
func TestCheckCycle(t *testing.T) {
	for nodes := 2; nodes <= api.MaxNodes; nodes++ {
		n := circle(nodes)
		for _, rate := range []int{1, -1, 7, 1000, -1000} {
			expectError(t, n, plan(slices.Repeat([]int{rate}, nodes), 0, 0), api.ErrCycle)
		}
		more := slices.Repeat([]int{7}, nodes)
		more[0] = 9
		expectError(t, n, plan(more, 2, -2), api.ErrCycle)
		// Without the first segment, or with it in the other direction, there is none.
		more[0] = 0
		if e := Check(n, plan(more, -7, 7)); e != api.OK {
			t.Errorf("an open circle of %d nodes: %d", nodes, e)
		}
		more[0] = -1
		if e := Check(n, plan(more, -8, 8)); e != api.OK {
			t.Errorf("both ways around %d nodes: %d", nodes, e)
		}
	}
}

// P16.1: only circles in the direction of flow are an error, and one anywhere is.
func TestCheckCycleAmongOthers(t *testing.T) {
	n := build(7, [][2]int{{0, 1}, {1, 2}, {0, 2}, {3, 4}, {4, 5}, {5, 3}, {6, 5}}, 0, 2, 3, 4, 5, 6)
	expectPlan(t, n, plan([]int{5, 5, 6, 0, 0, 0, 0}, 11, -11, 0, 0, 0, 0), []int{0, 1, 2, 3, 4, 5, 6}, []int{11, 5, 11, 0, 0, 0, 0}, 11)
	expectPlan(t, n, plan([]int{5, 5, 6, 2, 2, -2, 0}, 11, -11, 4, 0, -4, 0), []int{0, 1, 2, 3, 4, 5, 6}, []int{11, 5, 11, 4, 2, 4, 0}, 15)
	expectError(t, n, plan([]int{5, 5, -5, 0, 0, 0, 0}, 0, 0, 0, 0, 0, 0), api.ErrCycle)
	expectError(t, n, plan([]int{-5, -5, 5, 0, 0, 0, 0}, 0, 0, 0, 0, 0, 0), api.ErrCycle)
	expectError(t, n, plan([]int{5, 5, 6, 2, 2, 2, 0}, 11, -11, 0, 0, 0, 0), api.ErrCycle)
	expectError(t, n, plan([]int{5, 5, 6, -2, -2, -2, -3}, 11, -11, 0, 0, 3, -3), api.ErrCycle)
	expectError(t, n, plan([]int{0, 0, 0, 2, 2, 2, 3}, 0, 0, 0, 0, -3, 3), api.ErrCycle)
}

// P16.1: every set of errors in one plan, of which the first one counts.
func TestCheckFirstError(t *testing.T) {
	faults := []struct {
		want  api.Errno
		spoil func(n *api.Network, p *api.Plan)
	}{
		{api.ErrForm, func(n *api.Network, p *api.Plan) { n.Nodes[1] = "B" }},
		{api.ErrInvalid, func(n *api.Network, p *api.Plan) { p.Pumps = append(p.Pumps, true) }},
		{api.ErrRange, func(n *api.Network, p *api.Plan) { p.Rates[0], p.Ports[0], p.Ports[1] = 1001, 1001, -1001 }},
		{api.ErrBalance, func(n *api.Network, p *api.Plan) { p.Ports[2] = 1 }},
		{api.ErrCycle, func(n *api.Network, p *api.Plan) { p.Rates[1], p.Rates[2] = 4, 4 }},
	}
	for set := 1; set < 1<<len(faults); set++ {
		n := build(5, [][2]int{{0, 1}, {2, 3}, {3, 2}}, 0, 1, 4)
		p := plan([]int{9, 0, 0}, 9, -9, 0)
		want := api.OK
		for i, f := range slices.Backward(faults) {
			if set>>i&1 == 1 {
				f.spoil(&n, &p)
				want = f.want
			}
		}
		expectError(t, n, p, want)
	}
}

// greatest is a network with as much of everything as there can be, through which as much flows as ports can let in: over three nodes, one behind the other.
func greatest() (api.Network, api.Plan, []int) {
	var ends [][2]int
	var ports []int
	for i := range api.MaxSegments {
		ends = append(ends, [2]int{23 - i%2, 22 - i%2})
	}
	for i := range api.MaxPorts {
		ports = append(ports, 23-i%2*2)
	}
	n := build(api.MaxNodes, ends, ports...)
	p := api.Plan{Rates: make([]int, api.MaxSegments), Pumps: make([]bool, api.MaxStations)}
	for i := range api.MaxSegments {
		if i < api.MaxPorts {
			p.Rates[i] = api.MaxRate
		}
	}
	for i := range api.MaxPorts {
		p.Ports = append(p.Ports, api.MaxRate-i%2*2*api.MaxRate)
	}
	for i := range api.MaxStations {
		n.Stations = append(n.Stations, api.Station{Name: "pump-" + strconv.Itoa(i), Node: i})
	}
	comes := make([]int, api.MaxNodes)
	comes[21], comes[22], comes[23] = 12000, 12000, 12000
	return n, p, comes
}

// P16.1, P16.2: the greatest sums.
func TestGreatest(t *testing.T) {
	n, p, comes := greatest()
	if e := network.Check(n); e != api.OK {
		t.Fatal("the greatest network has the error", e)
	}
	order := make([]int, api.MaxNodes)
	for i := range order {
		order[i] = i
	}
	order[21], order[23] = 23, 21
	expectPlan(t, n, p, order, comes, 12000)
	p.Ports[api.MaxPorts-1]++
	expectError(t, n, p, api.ErrBalance)
}
