package advance

import (
	"fmt"
	"math"
	"slices"
	"strconv"
	"testing"

	"batchline/api"
)

// pipe is a segment between two nodes.
type pipe struct{ from, to, capacity int }

// build is a network of so many nodes, with these pipes, and ports at these nodes.
func build(nodes int, pipes []pipe, ports ...int) api.Network {
	n := api.Network{Nodes: make([]string, nodes)}
	for i := range n.Nodes {
		n.Nodes[i] = "node-" + strconv.Itoa(i)
	}
	for i, x := range pipes {
		n.Segments = append(n.Segments, api.Segment{
			Name: "pipe-" + strconv.Itoa(i), From: x.from, To: x.to, Capacity: x.capacity,
			Points: []api.Point{{Limit: 900000}, {At: x.capacity, Limit: 900000}},
		})
	}
	for i, node := range ports {
		n.Ports = append(n.Ports, api.Port{Name: "port-" + strconv.Itoa(i), Node: node})
	}
	return n
}

// plan is one without stations.
func plan(rates []int, ports ...int) api.Plan { return api.Plan{Rates: rates, Ports: ports} }

// pieces are those with these batches and volumes, in turn.
func pieces(numbers ...int) []api.Piece {
	var list []api.Piece
	for i := 0; i < len(numbers); i += 2 {
		list = append(list, api.Piece{Batch: numbers[i], Volume: numbers[i+1]})
	}
	return list
}

// striped are so many pieces of a volume, of the batches 0 and 1 in turn.
func striped(count, volume int) []api.Piece {
	var list []api.Piece
	for i := range count {
		list = append(list, api.Piece{Batch: i % 2, Volume: volume})
	}
	return list
}

// lists are some lists of pieces.
func lists(all ...[]api.Piece) [][]api.Piece { return all }

// areEqual reports whether two lists of lists of pieces are.
func areEqual(a, b [][]api.Piece) bool { return slices.EqualFunc(a, b, slices.Equal[[]api.Piece]) }

// work is what a plan is carried out with.
type work struct {
	n     api.Network
	fills [][]api.Piece
	p     api.Plan
	feeds []int
}

// moved is what Tick and Run return.
type moved struct {
	fills, out [][]api.Piece
	e          api.Errno
}

// result is what Tick and Run return, as one.
func result(fills, out [][]api.Piece, e api.Errno) moved { return moved{fills, out, e} }

// equals reports whether two results are equal.
func (m moved) equals(o moved) bool {
	return m.e == o.e && areEqual(m.fills, o.fills) && areEqual(m.out, o.out)
}

// expectRun checks a result of Run, and that of Tick, which does the same as a run of one.
func (w work) expectRun(t *testing.T, ticks int, fills, out [][]api.Piece, e api.Errno) {
	t.Helper()
	want := moved{fills, out, e}
	if got := result(Run(w.n, w.fills, w.p, w.feeds, ticks)); !got.equals(want) {
		t.Errorf("%d ticks of %.999s are %.999s, want %.999s", ticks, text(w), text(got), text(want))
	}
	if ticks != 1 {
		return
	}
	if got := result(Tick(w.n, w.fills, w.p, w.feeds)); !got.equals(want) {
		t.Errorf("a tick of %.999s is %.999s, want %.999s", text(w), text(got), text(want))
	}
}

// text is v as a text, of which a part may be printed.
func text(v any) string { return fmt.Sprint(v) }

// expectTick checks a tick without an error.
func (w work) expectTick(t *testing.T, fills, out [][]api.Piece) {
	t.Helper()
	w.expectRun(t, 1, fills, out, api.OK)
}

// expectError checks that Tick and Run have an error, and no other result.
func (w work) expectError(t *testing.T, want api.Errno) {
	t.Helper()
	for _, ticks := range []int{0, 1, 2, api.MaxTicks} {
		w.expectRun(t, ticks, nil, nil, want)
	}
}

// expectLimit checks that from a number of ticks on, and not before, there are too many pieces somewhere.
func (w work) expectLimit(t *testing.T, ticks int) {
	t.Helper()
	if _, _, e := Run(w.n, w.fills, w.p, w.feeds, ticks-1); e != api.OK {
		t.Errorf("%d ticks of %.999s have the error %d", ticks-1, text(w), e)
	}
	for _, more := range []int{ticks, ticks + 1, api.MaxTicks} {
		w.expectRun(t, more, nil, nil, api.ErrLimit)
	}
	w.expectRun(t, 0, w.fills, make([][]api.Piece, len(w.n.Ports)), api.OK)
}

// example is that of the chapter.
func example() work {
	return work{
		build(3, []pipe{{0, 1, 10}, {2, 1, 10}}, 0, 1, 2),
		lists(pieces(1, 10), pieces(2, 10)),
		plan([]int{4, -3}, 4, -1, -3),
		[]int{5, 0, 0},
	}
}

// P18.2: the example of the chapter.
func TestExample(t *testing.T) {
	w := example()
	w.expectTick(t, lists(pieces(5, 4, 1, 6), pieces(2, 7, 1, 3)), lists(nil, pieces(1, 1), pieces(2, 3)))
	// P18.3: the next tick, too.
	w.expectRun(t, 2, lists(pieces(5, 8, 1, 2), pieces(2, 4, 1, 6)), lists(nil, pieces(1, 2), pieces(2, 6)), api.OK)
}

// P18.2: one pipe, in both directions, by a part of it, and by all that it holds.
func TestTickPipe(t *testing.T) {
	w := work{build(2, []pipe{{0, 1, 10}}, 0, 1), lists(pieces(1, 4, 2, 1, 3, 5)), plan([]int{6}, 6, -6), []int{7, 8}}
	w.expectTick(t, lists(pieces(7, 6, 1, 4)), lists(nil, pieces(3, 5, 2, 1)))
	w.p = plan([]int{-6}, -6, 6)
	w.expectTick(t, lists(pieces(3, 4, 8, 6)), lists(pieces(1, 4, 2, 1, 3, 1), nil))
	w.p = plan([]int{10}, 10, -10)
	w.expectTick(t, lists(pieces(7, 10)), lists(nil, pieces(3, 5, 2, 1, 1, 4)))
	w.p = plan([]int{-10}, -10, 10)
	w.expectTick(t, lists(pieces(8, 10)), lists(pieces(1, 4, 2, 1, 3, 5), nil))
	w.p = plan([]int{1}, 1, -1)
	w.expectTick(t, lists(pieces(7, 1, 1, 4, 2, 1, 3, 4)), lists(nil, pieces(3, 1)))
	w.feeds = []int{1, 3}
	w.expectTick(t, lists(pieces(1, 5, 2, 1, 3, 4)), lists(nil, pieces(3, 1)))
	w.p = plan([]int{-1}, -1, 1)
	w.expectTick(t, lists(pieces(1, 3, 2, 1, 3, 6)), lists(pieces(1, 1), nil))
	w.p = plan([]int{0}, 0, 0)
	w.expectTick(t, w.fills, lists(nil, nil))
}

// P18.2: the litres keep their order over two pipes, however they lie.
func TestTickTwoPipes(t *testing.T) {
	fills := lists(pieces(1, 4, 2, 1, 3, 1, 4, 1), pieces(9, 5))
	for _, x := range []struct {
		pipes []pipe
		rates []int
		want  [][]api.Piece
	}{
		{[]pipe{{0, 1, 7}, {1, 2, 5}}, []int{3, 3}, lists(pieces(6, 3, 1, 4), pieces(2, 1, 3, 1, 4, 1, 9, 2))},
		{[]pipe{{0, 1, 7}, {2, 1, 5}}, []int{3, -3}, lists(pieces(6, 3, 1, 4), pieces(9, 2, 4, 1, 3, 1, 2, 1))},
		{[]pipe{{1, 0, 7}, {1, 2, 5}}, []int{-3, 3}, lists(pieces(1, 1, 2, 1, 3, 1, 4, 1, 6, 3), pieces(1, 3, 9, 2))},
		{[]pipe{{1, 0, 7}, {2, 1, 5}}, []int{-3, -3}, lists(pieces(1, 1, 2, 1, 3, 1, 4, 1, 6, 3), pieces(9, 2, 1, 3))},
	} {
		work{build(3, x.pipes, 0, 2), fills, plan(x.rates, 3, -3), []int{6, 0}}.expectTick(t, x.want, lists(nil, pieces(9, 3)))
	}
	// All that is in the second pipe is replaced.
	w := work{build(3, []pipe{{1, 0, 7}, {2, 1, 5}}, 0, 2), fills, plan([]int{-5, -5}, 5, -5), []int{6, 0}}
	w.expectTick(t, lists(pieces(3, 1, 4, 1, 6, 5), pieces(1, 4, 2, 1)), lists(nil, pieces(9, 5)))
}

// P18.2: to a stream, ports come in order, and then segments in order, whatever the order of the nodes is.
func TestTickStream(t *testing.T) {
	w := work{
		build(4, []pipe{{2, 3, 10}, {3, 0, 10}, {1, 3, 10}}, 3, 0, 3, 1, 2, 3),
		lists(pieces(10, 10), pieces(11, 10), pieces(12, 10)),
		plan([]int{1, -2, 3}, 4, 2, 5, 3, 1, -15),
		[]int{20, 21, 22, 23, 24, 25},
	}
	fills := lists(pieces(24, 1, 10, 9), pieces(11, 8, 21, 2), pieces(23, 3, 12, 7))
	w.expectTick(t, fills, lists(nil, nil, nil, nil, nil, pieces(20, 4, 22, 5, 10, 1, 11, 2, 12, 3)))
	// Neighbours of the same batch are merged: two ports, a port and a segment, and two segments.
	w.feeds = []int{10, 21, 10, 23, 24, 25}
	w.fills[1], fills[1] = pieces(12, 10), pieces(12, 8, 21, 2)
	w.expectTick(t, fills, lists(nil, nil, nil, nil, nil, pieces(10, 10, 12, 5)))
}

// P18.2: a stream is dealt to ports in order, and then to segments in order.
func TestTickDealt(t *testing.T) {
	// The litres 4, 5, .. come to node 0, from a pipe and by a port; one leaves by each port and each pipe.
	w := work{
		build(4, []pipe{{1, 0, 9}, {0, 2, 9}, {3, 0, 9}}, 1, 0, 0, 2, 0, 3),
		lists(pieces(9, 5, 7, 1, 6, 1, 5, 1, 4, 1), pieces(1, 9), pieces(2, 9)),
		plan([]int{4, 1, -1}, 4, -1, 0, -1, -1, -1),
		[]int{3, 3, 3, 3, 3, 3},
	}
	w.expectTick(t,
		lists(pieces(3, 4, 9, 5), pieces(6, 1, 1, 8), pieces(2, 8, 7, 1)),
		lists(nil, pieces(4, 1), nil, pieces(1, 1), pieces(5, 1), pieces(2, 1)))
	// As evenly as litres allow: to the pipe, to the pipe, to the port, and to the pipe.
	w.p = plan([]int{4, 3, 0}, 4, -1, 0, -3, 0, 0)
	w.expectTick(t,
		lists(pieces(3, 4, 9, 5), pieces(7, 1, 5, 1, 4, 1, 1, 6), pieces(2, 9)),
		lists(nil, pieces(6, 1), nil, pieces(1, 3), nil, nil))
	w.p = plan([]int{4, 0, -3}, 4, 0, -1, 0, 0, -3)
	w.expectTick(t,
		lists(pieces(3, 4, 9, 5), pieces(1, 9), pieces(2, 6, 4, 1, 5, 1, 7, 1)),
		lists(nil, nil, pieces(6, 1), nil, nil, pieces(2, 3)))
}

// P18.2: what flows in and out at one node passes no segment.
func TestTickThroughNode(t *testing.T) {
	w := work{build(1, nil, 0, 0, 0, 0), nil, plan(nil, 2, -3, 2, -1), []int{5, 6, 7, 8}}
	w.expectTick(t, nil, lists(nil, pieces(5, 2, 7, 1), nil, pieces(7, 1)))
	w.feeds = []int{7, 6, 7, 8}
	w.expectTick(t, nil, lists(nil, pieces(7, 3), nil, pieces(7, 1)))
	w.expectRun(t, 3, nil, lists(nil, pieces(7, 9), nil, pieces(7, 3)), api.OK)
	w = work{build(2, []pipe{{0, 1, 5}}, 1, 1), lists(pieces(1, 5)), plan([]int{0}, -1000, 1000), []int{999, 0}}
	w.expectTick(t, w.fills, lists(pieces(0, 1000), nil))
}

// P18.1, P18.2, P18.3: a network in which there is nothing to move.
func TestNothing(t *testing.T) {
	for _, w := range []work{{n: build(1, nil)}, {build(1, nil), [][]api.Piece{}, api.Plan{Rates: []int{}, Ports: []int{}, Pumps: []bool{}}, []int{}}} {
		if e := Check(w.n, w.fills); e != api.OK {
			t.Errorf("Check = %d", e)
		}
		for _, ticks := range []int{0, 1, 400} {
			w.expectRun(t, ticks, nil, nil, api.OK)
		}
	}
}

// chain is a network with three pipes, one behind the other, and fills for them.
func chain() (api.Network, [][]api.Piece) {
	n := build(4, []pipe{{0, 1, 10}, {1, 2, 300}, {2, 3, api.MaxCapacity}}, 0, 3)
	return n, lists(pieces(1, 4, 2, 6), striped(200, 1), pieces(0, 500000, 999, 500000))
}

// expectCheck checks Check, and that Tick and Run have its error.
func expectCheck(t *testing.T, n api.Network, fills [][]api.Piece, want api.Errno) {
	t.Helper()
	if e := Check(n, fills); e != want {
		t.Errorf("Check of %v in %v = %d, want %d", fills, n.Segments, e, want)
	}
	if want == api.OK {
		return
	}
	rest := plan(make([]int, len(n.Segments)), make([]int, len(n.Ports))...)
	for _, p := range []api.Plan{rest, {}, plan([]int{2000}, -5)} {
		for _, feeds := range [][]int{make([]int, len(n.Ports)), nil, {-1}} {
			work{n, fills, p, feeds}.expectError(t, want)
		}
	}
}

// P18.1: valid fills.
func TestCheck(t *testing.T) {
	n, fills := chain()
	fills[1][199].Volume = 101
	expectCheck(t, n, fills, api.OK)
	for _, capacity := range []int{1, 2, 1000, api.MaxCapacity} {
		n := build(2, []pipe{{0, 1, capacity}})
		expectCheck(t, n, lists(pieces(0, capacity)), api.OK)
		expectCheck(t, n, lists(pieces(999, capacity)), api.OK)
	}
}

// P18.1: the errors of networks come first.
func TestCheckNetwork(t *testing.T) {
	for want, spoil := range map[api.Errno]func(n *api.Network){
		api.ErrLimit:   func(n *api.Network) { n.Segments[2].Points = nil },
		api.ErrForm:    func(n *api.Network) { n.Ports[1].Name = "" },
		api.ErrTwice:   func(n *api.Network) { n.Nodes[2] = n.Nodes[0] },
		api.ErrUnknown: func(n *api.Network) { n.Segments[0].To = 4 },
		api.ErrInvalid: func(n *api.Network) { n.Settle = -1 },
	} {
		n, fills := chain()
		spoil(&n)
		expectCheck(t, n, fills, want)
		fills[1][199].Volume = 101
		expectCheck(t, n, fills, want)
		fills[0] = pieces(1, 4, 1, 6)
		expectCheck(t, n, fills, want)
		expectCheck(t, n, nil, want)
	}
	expectCheck(t, api.Network{}, nil, api.ErrLimit)
}

// P18.1: there is one fill for each segment, and each is valid; this is looked for ahead of capacities.
func TestCheckInvalid(t *testing.T) {
	n, fills := chain()
	for _, first := range lists(fills[0], pieces(1, 9), nil) {
		all := lists(first, pieces(1, 300), fills[2])
		expectCheck(t, n, all[:0], api.ErrInvalid)
		expectCheck(t, n, all[:2], api.ErrInvalid)
		expectCheck(t, n, append(all, nil), api.ErrInvalid)
		expectCheck(t, n, append(all, pieces(1, 10)), api.ErrInvalid)
		for _, bad := range lists(
			pieces(1, 100, 1, 200),
			pieces(1, 300, 2, 0),
			pieces(1, 301, 2, -1),
			pieces(-1, 300),
			pieces(1000, 300),
			pieces(1, api.MaxCapacity+1),
			pieces(1, api.MaxCapacity, 2, 1),
			pieces(1, math.MaxInt, 2, math.MaxInt, 1, 302),
			striped(201, 1),
			striped(300, 1),
			striped(1000, 1),
		) {
			expectCheck(t, n, lists(first, bad, fills[2]), api.ErrInvalid)
			expectCheck(t, n, lists(first, fills[1], bad), api.ErrInvalid)
			expectCheck(t, n, lists(bad, fills[1], first), api.ErrInvalid)
		}
	}
	expectCheck(t, build(1, nil), lists(nil), api.ErrInvalid)
	expectCheck(t, build(1, nil), make([][]api.Piece, 100000), api.ErrInvalid)
}

// P18.1: each fill has just the capacity of its own segment.
func TestCheckFill(t *testing.T) {
	n, fills := chain()
	fills[1] = pieces(1, 300)
	expectCheck(t, n, fills, api.OK)
	for i, s := range n.Segments {
		for _, volume := range []int{1, s.Capacity / 2, s.Capacity - 1, s.Capacity + 1, 10, 300, api.MaxCapacity} {
			if volume == s.Capacity || volume > api.MaxCapacity {
				continue
			}
			all := slices.Clone(fills)
			all[i] = pieces(1, volume)
			expectCheck(t, n, all, api.ErrFill)
		}
		all := slices.Clone(fills)
		all[i] = nil
		expectCheck(t, n, all, api.ErrFill)
	}
	expectCheck(t, n, lists(fills[1], fills[0], fills[2]), api.ErrFill)
}

// P18.2: there is one feed for each port, also for those at which nothing flows in, and each is a batch.
func TestTickFeeds(t *testing.T) {
	w := example()
	for _, feeds := range [][]int{nil, {}, {5}, {5, 0}, {5, 0, 0, 0}, make([]int, 100000)} {
		w.feeds = feeds
		w.expectError(t, api.ErrInvalid)
	}
	for i := range 3 {
		for _, batch := range []int{math.MinInt, -1, api.MaxBatches, api.MaxBatches + 1, math.MaxInt} {
			w.feeds = []int{5, 0, 0}
			w.feeds[i] = batch
			w.expectError(t, api.ErrInvalid)
		}
	}
	for _, batch := range []int{0, 999} {
		w.feeds = []int{batch, 999, 0}
		w.expectTick(t, lists(pieces(batch, 4, 1, 6), pieces(2, 7, 1, 3)), lists(nil, pieces(1, 1), pieces(2, 3)))
	}
}

// P18.2: the errors of plans.
func TestTickPlan(t *testing.T) {
	w := example()
	for _, x := range []struct {
		p    api.Plan
		want api.Errno
	}{
		{api.Plan{}, api.ErrInvalid},
		{plan([]int{4}, 4, -1, -3), api.ErrInvalid},
		{plan([]int{4, -3}, 4, -1, -3, 0), api.ErrInvalid},
		{api.Plan{Rates: w.p.Rates, Ports: w.p.Ports, Pumps: []bool{true}}, api.ErrInvalid},
		{plan([]int{11, -10}, 11, -1, -10), api.ErrRange},
		{plan([]int{10, -11}, 10, 1, -11), api.ErrRange},
		{plan([]int{0, 0}, 1001, 0, 0), api.ErrRange},
		{plan([]int{math.MinInt, 0}, 0, math.MinInt, 0), api.ErrRange},
		{plan([]int{4, -3}, 4, 0, -3), api.ErrBalance},
		{plan([]int{4, 3}, 4, -1, -3), api.ErrBalance},
	} {
		w.p = x.p
		w.expectError(t, x.want)
	}
	w = work{build(2, []pipe{{0, 1, 10}, {1, 0, 10}}), lists(pieces(1, 10), pieces(2, 10)), plan([]int{3, 3}), nil}
	w.expectError(t, api.ErrCycle)
	w.p = plan([]int{-10, -10})
	w.expectError(t, api.ErrCycle)
}

// P18.1, P18.2, P18.3: every set of errors at once, of which the first one counts.
func TestFirstError(t *testing.T) {
	faults := []struct {
		want  api.Errno
		spoil func(w *work)
	}{
		{api.ErrForm, func(w *work) { w.n.Nodes[1] = "B" }},
		{api.ErrInvalid, func(w *work) { w.fills = append(w.fills, nil) }},
		{api.ErrFill, func(w *work) { w.fills[2] = pieces(1, 9) }},
		{api.ErrInvalid, func(w *work) { w.p.Pumps = append(w.p.Pumps, true) }},
		{api.ErrRange, func(w *work) { w.p.Rates[0], w.p.Ports[0], w.p.Ports[1] = 401, 401, -401 }},
		{api.ErrBalance, func(w *work) { w.p.Ports[2] = 1 }},
		{api.ErrCycle, func(w *work) { w.p.Rates[1], w.p.Rates[2] = 4, 4 }},
		{api.ErrInvalid, func(w *work) { w.feeds[2] = -1 }},
		{api.ErrLimit, func(w *work) { w.fills[0] = append(striped(199, 1), pieces(9, 201)...) }},
	}
	for set := range 1 << len(faults) {
		w := work{
			build(5, []pipe{{0, 1, 400}, {2, 3, 10}, {3, 2, 10}}, 0, 1, 4),
			lists(pieces(1, 400), pieces(1, 10), pieces(2, 10)),
			plan([]int{9, 0, 0}, 9, -9, 0),
			[]int{3, 4, 5},
		}
		first, check := api.OK, api.OK
		for i, f := range slices.Backward(faults) {
			if set>>i&1 == 1 {
				f.spoil(&w)
				first = f.want
				if i < 3 {
					check = f.want
				}
			}
		}
		if e := Check(w.n, w.fills); e != check {
			t.Errorf("Check with the errors %b = %d, want %d", set, e, check)
		}
		if first == api.ErrLimit {
			w.expectLimit(t, 1)
		} else if first != api.OK {
			w.expectError(t, first)
		}
		for _, ticks := range []int{math.MinInt, -1, api.MaxTicks + 1, math.MaxInt} {
			w.expectRun(t, ticks, nil, nil, api.ErrRange)
		}
	}
}

// P18.3: all numbers of ticks.
func TestRunTicks(t *testing.T) {
	w := work{build(2, []pipe{{0, 1, 1000}}, 0, 1), lists(pieces(1, 600, 2, 400)), plan([]int{2}, 2, -2), []int{3, 0}}
	for ticks := range api.MaxTicks + 1 {
		fill := pieces(3, 2*ticks, 1, 600, 2, 400-2*ticks)
		out := pieces(2, 2*ticks)
		if ticks > 200 {
			fill, out = pieces(3, 2*ticks, 1, 1000-2*ticks), pieces(2, 400, 1, 2*ticks-400)
		}
		noVolume := func(x api.Piece) bool { return x.Volume == 0 }
		w.expectRun(t, ticks, lists(slices.DeleteFunc(fill, noVolume)), lists(nil, slices.DeleteFunc(out, noVolume)), api.OK)
	}
	for _, ticks := range []int{math.MinInt, math.MinInt + 1, -400, -1, 401, 402, 1 << 32, math.MaxInt} {
		w.expectRun(t, ticks, nil, nil, api.ErrRange)
	}
}
