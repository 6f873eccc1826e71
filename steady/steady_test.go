package steady

import (
	"fmt"
	"reflect"
	"slices"
	"strconv"
	"testing"

	"batchline/api"
)

// pipe is a segment between two nodes.
type pipe struct{ from, to, capacity, resist int }

// build is a network on level ground, of so many nodes, with these pipes, and ports at these nodes.
func build(nodes int, pipes []pipe, ports ...int) api.Network {
	n := api.Network{Nodes: make([]string, nodes)}
	for i := range n.Nodes {
		n.Nodes[i] = "node-" + strconv.Itoa(i)
	}
	for i, x := range pipes {
		n.Segments = append(n.Segments, api.Segment{
			Name: "pipe-" + strconv.Itoa(i), From: x.from, To: x.to, Capacity: x.capacity, Resist: x.resist,
			Points: []api.Point{{Limit: 900000}, {At: x.capacity, Limit: 900000}},
		})
	}
	for i, node := range ports {
		n.Ports = append(n.Ports, api.Port{Name: "port-" + strconv.Itoa(i), Node: node})
	}
	return n
}

// pump is a station at a node.
func pump(name string, node, head, fall, suction int) api.Station {
	return api.Station{Name: name, Node: node, Head: head, Fall: fall, Suction: suction}
}

// work is what Solve and Check get.
type work struct {
	n        api.Network
	batches  []api.Batch
	products []api.Product
	fills    [][]api.Piece
	p        api.Plan
}

// solve returns what Solve does.
func (w work) solve() (api.Pressures, api.Errno) {
	return Solve(w.n, w.batches, w.products, w.fills, w.p)
}

// water is a network with a plan, all of it filled with the reference liquid: what a segment loses on level ground is Resist times the square of the rate.
func water(n api.Network, p api.Plan) work {
	w := work{n: n, batches: []api.Batch{{}}, products: []api.Product{{Name: "water", Density: 1000, Friction: 1000}}, p: p}
	for _, s := range n.Segments {
		w.fills = append(w.fills, []api.Piece{{Volume: s.Capacity}})
	}
	if p.Pumps == nil {
		w.p.Pumps = make([]bool, len(n.Stations))
	}
	return w
}

// sure are levels with these places and pressures, in turn.
func sure(numbers ...int) []api.Level {
	var list []api.Level
	for i := 0; i < len(numbers); i += 2 {
		list = append(list, api.Level{At: numbers[i], Bounds: api.Bounds{Low: numbers[i+1], High: numbers[i+1]}})
	}
	return list
}

// unknown says that a node has no pressure.
var unknown = []int{}

// pressures are those of nodes, each of them unknown, one pressure, or the two bounds, and of segments.
func pressures(nodes [][]int, segments ...[]api.Level) api.Pressures {
	x := api.Pressures{Segments: segments}
	for _, b := range nodes {
		x.Known = append(x.Known, len(b) > 0)
		bounds := api.Bounds{}
		if len(b) > 0 {
			bounds = api.Bounds{Low: b[0], High: b[len(b)-1]}
		}
		x.Nodes = append(x.Nodes, bounds)
	}
	return x
}

// text is v as a text, of which a part may be printed.
func text(v any) string { return fmt.Sprint(v) }

// areEqual reports whether two pressures are.
func areEqual(a, b api.Pressures) bool {
	return slices.Equal(a.Known, b.Known) && slices.Equal(a.Nodes, b.Nodes) &&
		slices.EqualFunc(a.Segments, b.Segments, slices.Equal[[]api.Level])
}

// expectSolve checks the pressures of w.
func (w work) expectSolve(t *testing.T, want api.Pressures) {
	t.Helper()
	if got, e := w.solve(); !areEqual(got, want) || e != api.OK {
		t.Errorf("Solve of %.999s = %.999s, %d, want %.999s", text(w), text(got), e, text(want))
	}
}

// expectError checks that Solve and Check have an error, and no other result.
func (w work) expectError(t *testing.T, want api.Errno) {
	t.Helper()
	if got, e := w.solve(); !reflect.DeepEqual(got, api.Pressures{}) || e != want {
		t.Errorf("Solve of %.999s = %.999s, %d, want the error %d", text(w), text(got), e, want)
	}
	w.expectCheck(t, api.Fault{}, want)
}

// expectCheck checks a result of Check.
func (w work) expectCheck(t *testing.T, want api.Fault, wantErr api.Errno) {
	t.Helper()
	got, e := Check(w.n, w.batches, w.products, w.fills, w.p)
	if got != want || e != wantErr {
		t.Errorf("Check of %.999s = %v, %d, want %v, %d", text(w), got, e, want, wantErr)
	}
}

// example is that of the chapter.
func example() work {
	return work{
		n: api.Network{
			Nodes: []string{"a", "b"},
			Segments: []api.Segment{{
				Name: "s", From: 0, To: 1, Capacity: 100, Resist: 1, Wave: 50,
				Points: []api.Point{{At: 0, Height: 0, Limit: 900000}, {At: 100, Height: 20, Limit: 900000}},
			}},
			Ports:    []api.Port{{Name: "in", Node: 0, Pressure: 300000}, {Name: "out", Node: 1}},
			Stations: []api.Station{{Name: "p", Node: 0, Head: 500000, Fall: 200, Suction: 100000}},
			Vapour:   50000, Settle: 10,
		},
		batches:  []api.Batch{{}},
		products: []api.Product{{Name: "diesel", Density: 800, Friction: 1000}},
		fills:    [][]api.Piece{{{Volume: 100}}},
		p:        api.Plan{Rates: []int{20}, Ports: []int{20, -20}, Pumps: []bool{true}},
	}
}

// P21.1, P21.3: the example of the chapter.
func TestExample(t *testing.T) {
	w := example()
	w.expectSolve(t, pressures([][]int{{300000}, {642608}}, sure(0, 799920, 100, 642608)))
	w.expectCheck(t, api.Fault{}, api.OK)
	for _, limits := range [][2]int{{700000, 700000}, {700000, 900000}, {900000, 700000}, {799919, 799920}} {
		w := example()
		w.n.Segments[0].Points[0].Limit, w.n.Segments[0].Points[1].Limit = limits[0], limits[1]
		w.expectCheck(t, api.Fault{Kind: api.FaultHigh, Index: 0, At: 0}, api.ErrPressure)
	}
	w.n.Segments[0].Points[0].Limit, w.n.Segments[0].Points[1].Limit = 799920, 799920
	w.expectCheck(t, api.Fault{}, api.OK)
}

// P21.1: a segment that flows back, at whose end there is a station that runs, which adds nothing to its node.
func TestSolveBack(t *testing.T) {
	w := example()
	w.n.Ports[1].Pressure = 400000
	w.p.Rates, w.p.Ports = []int{-20}, []int{-20, 20}
	w.expectSolve(t, pressures([][]int{{556512}, {400000}}, sure(0, 556512, 100, 400000)))
	// With a station at the end at which it is entered, it counts.
	w.n.Stations[0].Node = 1
	w.expectSolve(t, pressures([][]int{{1056432}, {400000}}, sure(0, 1056432, 100, 899920)))
	w.p.Pumps[0] = false
	w.expectSolve(t, pressures([][]int{{556512}, {400000}}, sure(0, 556512, 100, 400000)))
}

// P21.1: nothing flows, so nothing is known; neither a pump nor a port without a rate changes this.
func TestSolveNothing(t *testing.T) {
	w := example()
	w.p.Rates, w.p.Ports = []int{0}, []int{0, 0}
	w.expectSolve(t, pressures([][]int{unknown, unknown}, nil))
	w.expectCheck(t, api.Fault{}, api.OK)
	alone := water(build(1, nil), api.Plan{})
	alone.expectSolve(t, pressures([][]int{unknown}))
	alone.expectCheck(t, api.Fault{}, api.OK)
	alone.products, alone.batches = nil, nil
	alone.expectSolve(t, pressures([][]int{unknown}))
}

// P21.1: ports that flow in make their node known, also where no segment is, with the least Pressure of them as both bounds; ports that flow out, or not at all, do not count.
func TestSolvePorts(t *testing.T) {
	for _, x := range []struct {
		rates []int
		want  []int
	}{
		{[]int{0, 0, 0, 0}, unknown},
		{[]int{5, -5, 0, 0}, []int{700}},
		{[]int{-5, 5, 0, 0}, []int{300}},
		{[]int{-5, 0, 5, 0}, []int{500}},
		{[]int{-9, 3, 5, 1}, []int{0}},
		{[]int{1, 2, -3, 0}, []int{300}},
		{[]int{1, -3, 2, 0}, []int{500}},
		{[]int{1, 2, 3, -6}, []int{300}},
		{[]int{1, -2, -3, 4}, []int{0}},
	} {
		n := build(2, nil, 0, 0, 0, 0)
		n.Ports[0].Pressure, n.Ports[1].Pressure, n.Ports[2].Pressure = 700, 300, 500
		water(n, api.Plan{Ports: x.rates}).expectSolve(t, pressures([][]int{x.want, unknown}))
	}
}

// P21.1: a node has the least of all that comes, by segments in both directions and by ports, and so has what it flows to.
func TestSolveJoin(t *testing.T) {
	pipes := []pipe{{0, 1, 100, 10}, {1, 0, 200, 7}, {0, 1, 300, 0}, {1, 2, 50, 1}}
	n := build(3, pipes, 0, 1, 2)
	n.Ports[0].Pressure = 50000
	p := api.Plan{Rates: []int{10, -20, 0, 35}, Ports: []int{30, 5, -35}}
	w := water(n, p)
	// Segment 0 loses 1000, segment 1 2800, segment 3 1225.
	for _, x := range []struct{ port, node, last int }{
		{46000, 46000, 44775},
		{47199, 47199, 45974},
		{48000, 47200, 45975},
		{52000, 47200, 45975},
	} {
		w.n.Ports[1].Pressure = x.port
		w.expectSolve(t, pressures(
			[][]int{{50000}, {x.node}, {x.last}},
			sure(0, 50000, 100, 49000), sure(0, 47200, 200, 50000), nil, sure(0, x.node, 50, x.last),
		))
	}
	// With nothing at the port of node 1, and as much less to the last node.
	w.p.Rates[3], w.p.Ports = 30, []int{30, 0, -30}
	w.n.Ports[1].Pressure = 1
	w.expectSolve(t, pressures(
		[][]int{{50000}, {47200}, {46300}},
		sure(0, 50000, 100, 49000), sure(0, 47200, 200, 50000), nil, sure(0, 47200, 50, 46300),
	))
}

// halves is a network in which the bounds of what comes to node 1 by segment 0, of which both sections climb 5 metres, differ by two Pa; a port at node 1 joins it, and segment 1 leaves.
func halves(port int) work {
	n := build(3, []pipe{{0, 1, 100, 0}, {1, 2, 100, 0}}, 0, 1, 2)
	n.Segments[0].Points = []api.Point{{At: 0, Height: 0, Limit: 900000}, {At: 40, Height: 5, Limit: 900000}, {At: 100, Height: 10, Limit: 900000}}
	n.Ports[0].Pressure, n.Ports[1].Pressure = 300000, port
	w := water(n, api.Plan{Rates: []int{3, 4}, Ports: []int{3, 1, -4}})
	w.products[0].Density = 500
	return w
}

// P21.1: the least Low and the least High may be those of different things that come.
func TestSolveJoinBounds(t *testing.T) {
	// Each of the two lifts is 9807 * 5 / 2 = 24517.5.
	for _, x := range []struct{ port, low, high int }{
		{250960, 250960, 250960},
		{250964, 250964, 250964},
		{250965, 250964, 250965},
		{250966, 250964, 250966},
		{250967, 250964, 250966},
		{900000, 250964, 250966},
	} {
		b := api.Bounds{Low: x.low, High: x.high}
		halves(x.port).expectSolve(t, pressures(
			[][]int{{300000}, {x.low, x.high}, {x.low, x.high}},
			[]api.Level{
				{At: 0, Bounds: api.Bounds{Low: 300000, High: 300000}},
				{At: 40, Bounds: api.Bounds{Low: 275482, High: 275483}},
				{At: 100, Bounds: api.Bounds{Low: 250964, High: 250966}},
			},
			[]api.Level{{At: 0, Bounds: b}, {At: 100, Bounds: b}},
		))
	}
}

// P21.1, P21.3: only the least High of all that comes to a node goes on to what it flows to, and is held against its limits.
func TestCheckJoin(t *testing.T) {
	n := build(3, []pipe{{0, 1, 100, 0}, {1, 2, 100, 0}}, 0, 1, 2)
	n.Segments[1].Points[0].Limit = 400000
	w := water(n, api.Plan{Rates: []int{3, 4}, Ports: []int{3, 1, -4}})
	fault := api.Fault{Kind: api.FaultHigh, Index: 1, At: 0}
	for _, x := range []struct {
		first, second int
		want          api.Fault
	}{
		{500000, 300000, none},
		{300000, 500000, none},
		{400000, 500000, none},
		{500000, 400000, none},
		{400001, 500000, fault},
		{500000, 400001, fault},
	} {
		w.n.Ports[0].Pressure, w.n.Ports[1].Pressure = x.first, x.second
		wantErr := api.OK
		if x.want != none {
			wantErr = api.ErrPressure
		}
		w.expectCheck(t, x.want, wantErr)
	}
}

// P21.1: a station raises all that leaves its node over segments, by the boost at the sum of their amounts; what leaves over a port does not count for it, nor does what comes.
func TestSolveStation(t *testing.T) {
	n := build(4, []pipe{{0, 1, 100, 1}, {1, 2, 100, 1}, {3, 1, 100, 1}}, 0, 1, 2, 3)
	n.Ports[0].Pressure = 40000
	n.Stations = []api.Station{pump("p", 1, 9000, 1000, 0), pump("q", 0, 500, 0, 0), pump("r", 2, 700, 0, 0)}
	p := api.Plan{Rates: []int{100, 20, -30}, Ports: []int{100, -50, -20, -30}, Pumps: []bool{true, false, true}}
	// Segment 0 loses 10000; the boost at 50 is 9000 - 2500; segment 1 loses 400, segment 2 900.
	w := water(n, p)
	w.expectSolve(t, pressures(
		[][]int{{40000}, {30000}, {36100}, {35600}},
		sure(0, 40000, 100, 30000), sure(0, 36500, 100, 36100), sure(0, 35600, 100, 36500),
	))
	// At the rate 100 there would be no boost at all.
	w.p.Rates, w.p.Ports = []int{100, 50, -50}, []int{100, 0, -50, -50}
	w.expectSolve(t, pressures(
		[][]int{{40000}, {30000}, {27500}, {27500}},
		sure(0, 40000, 100, 30000), sure(0, 30000, 100, 27500), sure(0, 27500, 100, 30000),
	))
	// A station before it raises what comes to it.
	w.p.Pumps[1] = true
	w.expectSolve(t, pressures(
		[][]int{{40000}, {30500}, {28000}, {28000}},
		sure(0, 40500, 100, 30500), sure(0, 30500, 100, 28000), sure(0, 28000, 100, 30500),
	))
}

// P21.1: both bounds are raised, and the node keeps its own.
func TestSolveStationBounds(t *testing.T) {
	w := halves(300000)
	w.n.Stations, w.p.Pumps = []api.Station{pump("p", 1, 1000, 0, 0)}, []bool{true}
	raised := api.Bounds{Low: 251964, High: 251966}
	w.expectSolve(t, pressures(
		[][]int{{300000}, {250964, 250966}, {251964, 251966}},
		[]api.Level{
			{At: 0, Bounds: api.Bounds{Low: 300000, High: 300000}},
			{At: 40, Bounds: api.Bounds{Low: 275482, High: 275483}},
			{At: 100, Bounds: api.Bounds{Low: 250964, High: 250966}},
		},
		[]api.Level{{At: 0, Bounds: raised}, {At: 100, Bounds: raised}},
	))
}

// P21.1: each segment has the levels of its own profile, fill and rate, with all products that lie in it.
func TestSolveFills(t *testing.T) {
	n := build(3, []pipe{{0, 1, 100, 2}, {2, 1, 10, 3}}, 0, 2)
	n.Segments[0].Points = []api.Point{{At: 0, Height: 10, Limit: 900000}, {At: 50, Height: 20, Limit: 900000}, {At: 100, Height: 0, Limit: 900000}}
	n.Ports[0].Pressure = 300000
	w := work{
		n:        n,
		batches:  []api.Batch{{Product: 1}, {Product: 0}, {Product: 1}},
		products: []api.Product{{Name: "thin", Density: 500, Friction: 500}, {Name: "thick", Density: 1000, Friction: 2000}},
		fills:    [][]api.Piece{{{Batch: 2, Volume: 25}, {Batch: 1, Volume: 75}}, {{Batch: 0, Volume: 10}}},
		p:        api.Plan{Rates: []int{10, -10}, Ports: []int{10, -10}},
	}
	// Frictions of segment 0: 2 * 2 * 100 / 4 = 100, 2 / 2 * 100 / 4 = 25, 50; lifts: 9807 * 5 = 49035, 24517.5, -98070.
	w.expectSolve(t, pressures(
		[][]int{{300000}, {324342, 324343}, {323742, 323743}},
		[]api.Level{
			{At: 0, Bounds: api.Bounds{Low: 300000, High: 300000}},
			{At: 25, Bounds: api.Bounds{Low: 250865, High: 250865}},
			{At: 50, Bounds: api.Bounds{Low: 226322, High: 226323}},
			{At: 100, Bounds: api.Bounds{Low: 324342, High: 324343}},
		},
		[]api.Level{{At: 0, Bounds: api.Bounds{Low: 323742, High: 323743}}, {At: 10, Bounds: api.Bounds{Low: 324342, High: 324343}}},
	))
}

// P21.1: nodes are gone through in the order of flow, whatever their numbers are.
func TestSolveOrder(t *testing.T) {
	const nodes = api.MaxNodes
	for step := 1; step < nodes; step++ {
		if step%2 == 0 || step%3 == 0 {
			continue // it would not come to all nodes
		}
		var pipes []pipe
		var rates []int
		want := make([][]int, nodes)
		segments := make([][]api.Level, 0, nodes-1)
		for i := range nodes - 1 {
			from, to, pressure := i*step%nodes, (i+1)*step%nodes, 1000000-100*i
			want[from], want[to] = []int{pressure}, []int{pressure - 100}
			if i%2 == 0 {
				pipes, rates = append(pipes, pipe{from, to, 10, 1}), append(rates, 10)
				segments = append(segments, sure(0, pressure, 10, pressure-100))
			} else {
				pipes, rates = append(pipes, pipe{to, from, 10, 1}), append(rates, -10)
				segments = append(segments, sure(0, pressure-100, 10, pressure))
			}
		}
		n := build(nodes, pipes, 0, (nodes-1)*step%nodes)
		n.Ports[0].Pressure = 1000000
		w := water(n, api.Plan{Rates: rates, Ports: []int{10, -10}})
		w.expectSolve(t, pressures(want, segments...))
	}
}

// steepest is a chain of as many nodes as there may be, with the greatest numbers that take away pressure, or add some.
func steepest(height int) work {
	var pipes []pipe
	w := work{batches: make([]api.Batch, api.MaxBatches), products: []api.Product{{Name: "tar", Density: 1200, Friction: 2000}}}
	for i := range api.MaxNodes - 1 {
		pipes = append(pipes, pipe{i, i + 1, api.MaxCapacity, 1000})
		w.p.Rates = append(w.p.Rates, api.MaxRate)
		w.fills = append(w.fills, []api.Piece{{Batch: api.MaxBatches - 1, Volume: api.MaxCapacity}})
	}
	w.n = build(api.MaxNodes, pipes, 0, api.MaxNodes-1)
	w.p.Ports = []int{api.MaxRate, -api.MaxRate}
	for i := range w.n.Segments {
		w.n.Segments[i].Points[0].Height, w.n.Segments[i].Points[1].Height = -500, -500
		w.n.Segments[i].Points[max(0, height)].Height = api.MaxHeight
	}
	return w
}

// P21.1: the greatest numbers have no other errors.
func TestSolveEnds(t *testing.T) {
	const friction, lift = 2000000000, 64726200
	for _, up := range []int{0, 1} {
		w := steepest(up)
		loss := friction + (2*up-1)*lift
		nodes := [][]int{{0}}
		var segments [][]api.Level
		for i := range api.MaxNodes - 1 {
			nodes = append(nodes, []int{-(i + 1) * loss})
			segments = append(segments, sure(0, -i*loss, api.MaxCapacity, -(i+1)*loss))
		}
		w.expectSolve(t, pressures(nodes, segments...))
		w.expectCheck(t, api.Fault{Kind: api.FaultLow, Index: 0, At: api.MaxCapacity}, api.ErrPressure)
	}
	w := steepest(0)
	w.n.Ports[0].Pressure = api.MaxPressure
	pressure := api.MaxPressure
	nodes := [][]int{{pressure}}
	var segments [][]api.Level
	for i := range w.n.Segments {
		w.n.Segments[i].Resist = 0
		if i < api.MaxStations {
			w.n.Stations = append(w.n.Stations, pump("p-"+strconv.Itoa(i), i, api.MaxPressure, 0, api.MaxPressure))
			w.p.Pumps = append(w.p.Pumps, true)
			pressure += api.MaxPressure
		}
		segments = append(segments, sure(0, pressure, api.MaxCapacity, pressure+lift))
		pressure += lift
		nodes = append(nodes, []int{pressure})
	}
	w.expectSolve(t, pressures(nodes, segments...))
	w.expectCheck(t, api.Fault{Kind: api.FaultHigh, Index: 0, At: 0}, api.ErrPressure)
}

// P21.1: a station past which all segments lead, in both directions, fed by twelve ports.
func TestSolveThroughMost(t *testing.T) {
	var pipes []pipe
	var ports []int
	p := api.Plan{Pumps: []bool{true}}
	var segments [][]api.Level
	for i := range api.MaxSegments {
		pipes = append(pipes, pipe{i % 2, 1 - i%2, 1000, 0})
		p.Rates = append(p.Rates, 375-750*(i%2))
		segments = append(segments, sure(0, 280000, 1000, 280000))
	}
	for range api.MaxPorts / 2 {
		ports = append(ports, 0, 1)
		p.Ports = append(p.Ports, 1000, -1000)
	}
	n := build(2, pipes, ports...)
	// The rate is 12000, at which the boost is 1000000 - 5 * 144000.
	n.Stations = []api.Station{pump("p", 0, 1000000, 5, 0)}
	water(n, p).expectSolve(t, pressures([][]int{{0}, {280000}}, segments...))
}
