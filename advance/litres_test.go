package advance

import (
	"math"
	"math/rand"
	"slices"
	"testing"

	"batchline/api"
	"batchline/flow"
	"batchline/piece"
)

// litresOf are the batches of all litres of lists.
func litresOf(all [][]api.Piece) [][]int {
	litres := make([][]int, len(all))
	for i, list := range all {
		for _, p := range list {
			litres[i] = append(litres[i], slices.Repeat([]int{p.Batch}, p.Volume)...)
		}
	}
	return litres
}

// piecesOf are the merged pieces that have these litres.
func piecesOf(litres [][]int) [][]api.Piece {
	all := make([][]api.Piece, len(litres))
	for i, list := range litres {
		for k, batch := range list {
			if k == 0 || batch != list[k-1] {
				all[i] = append(all[i], api.Piece{Batch: batch})
			}
			all[i][len(all[i])-1].Volume++
		}
	}
	return all
}

// turn is when one gets a litre: the fraction of number and rate.
type turn struct{ of, number, rate int }

// receivers are those to which the litres go, one after the other: all turns of all, sorted by their fractions, and equal ones by their indices.
func receivers(rates []int) []int {
	var turns []turn
	for i, rate := range rates {
		for k := range rate {
			turns = append(turns, turn{i, k + 1, rate})
		}
	}
	slices.SortStableFunc(turns, func(a, b turn) int { return a.number*b.rate - b.number*a.rate })
	var all []int
	for _, x := range turns {
		all = append(all, x.of)
	}
	return all
}

// given are the litres that leave a segment in a tick, in this order. All of them are there when it begins, since no rate is greater than the capacity.
func given(fill []int, rate int) []int {
	if rate < 0 {
		return fill[:-rate]
	}
	out := slices.Clone(fill[len(fill)-rate:])
	slices.Reverse(out)
	return out
}

// pushed are the litres of a segment to which so many have come, in this order.
func pushed(fill, in []int, rate int) []int {
	if rate < 0 {
		return slices.Concat(fill[-rate:], in)
	}
	in = slices.Clone(in)
	slices.Reverse(in)
	return slices.Concat(in, fill[:len(fill)-rate])
}

// streamTo are the litres that come to a node in a tick.
func (w work) streamTo(node int, fills [][]int) []int {
	var stream []int
	for i, port := range w.n.Ports {
		if port.Node == node {
			stream = append(stream, slices.Repeat([]int{w.feeds[i]}, max(w.p.Ports[i], 0))...)
		}
	}
	for i, s := range w.n.Segments {
		if rate := w.p.Rates[i]; rate > 0 && s.To == node || rate < 0 && s.From == node {
			stream = append(stream, given(fills[i], rate)...)
		}
	}
	return stream
}

// ratesFrom are what leaves a node: over each port, and then over each segment.
func (w work) ratesFrom(node int) []int {
	var rates []int
	for i, port := range w.n.Ports {
		rates = append(rates, 0)
		if port.Node == node {
			rates[i] = max(-w.p.Ports[i], 0)
		}
	}
	for i, s := range w.n.Segments {
		rate := 0
		switch node {
		case s.From:
			rate = max(w.p.Rates[i], 0)
		case s.To:
			rate = max(-w.p.Rates[i], 0)
		}
		rates = append(rates, rate)
	}
	return rates
}

// tick is what each segment holds after a tick, and what has flowed out at each port, litre by litre, and the error.
func (w work) tick(fills [][]int) (after, out [][]int, e api.Errno) {
	got := make([][]int, len(w.n.Ports)+len(w.n.Segments))
	for node := range w.n.Nodes {
		stream := w.streamTo(node, fills)
		if len(piecesOf([][]int{stream})[0]) > api.MaxPieces {
			e = api.ErrLimit
		}
		for k, to := range receivers(w.ratesFrom(node)) {
			got[to] = append(got[to], stream[k])
		}
	}
	for i, fill := range fills {
		after = append(after, pushed(fill, got[len(w.n.Ports)+i], w.p.Rates[i]))
	}
	if haveTooMany(after) {
		e = api.ErrLimit
	}
	return after, got[:len(w.n.Ports)], e
}

// haveTooMany reports whether one of some lists has more pieces than it may have.
func haveTooMany(litres [][]int) bool {
	return slices.ContainsFunc(piecesOf(litres), func(list []api.Piece) bool { return len(list) > api.MaxPieces })
}

// run is the result of so many ticks, by the definitions.
func (w work) run(ticks int) moved {
	fills, out := litresOf(w.fills), make([][]int, len(w.n.Ports))
	for range ticks {
		after, more, e := w.tick(fills)
		for i, list := range more {
			out[i] = append(out[i], list...)
		}
		if e != api.OK || haveTooMany(out) {
			return moved{e: api.ErrLimit}
		}
		fills = after
	}
	return moved{piecesOf(fills), piecesOf(out), api.OK}
}

// size is how large works may be.
type size struct{ nodes, pipes, ports, capacity, rate, batches int }

// anyPipes are some between any nodes.
func anyPipes(r *rand.Rand, s size) []pipe {
	var pipes []pipe
	for range r.Intn(s.pipes + 1) {
		ends := r.Perm(s.nodes)
		pipes = append(pipes, pipe{ends[0], ends[1], 1 + r.Intn(s.capacity)})
	}
	return pipes
}

// anyFill is a valid fill with this volume, in many cases with nearly as many pieces as there can be.
func anyFill(r *rand.Rand, volume, batches int) []api.Piece {
	most := min(volume, api.MaxPieces)
	count := 1 + r.Intn(most)
	if r.Intn(3) == 0 {
		count = max(1, most-r.Intn(5))
	}
	ends := append(r.Perm(volume - 1)[:count-1], volume-1)
	slices.Sort(ends)
	var fill []api.Piece
	batch, last := r.Intn(batches), -1
	for _, end := range ends {
		fill = append(fill, api.Piece{Batch: batch, Volume: end - last})
		batch, last = (batch+1+r.Intn(batches-1))%batches, end
	}
	return fill
}

// anyWork is a plan that flows down a list of the nodes, with ports at each node that take up what is over, and others, and the fills and feeds for it.
func anyWork(r *rand.Rand, s size) work {
	pipes := anyPipes(r, s)
	ports := r.Perm(s.nodes)
	for range r.Intn(s.ports + 1) {
		ports = append(ports, r.Intn(s.nodes))
	}
	r.Shuffle(len(ports), func(i, k int) { ports[i], ports[k] = ports[k], ports[i] })
	w := work{n: build(s.nodes, pipes, ports...), p: plan(make([]int, len(pipes)), make([]int, len(ports))...)}
	over := make([]int, s.nodes)
	down := r.Perm(s.nodes)
	for i, x := range pipes {
		rate := r.Intn(min(x.capacity, s.rate) + 1)
		if down[x.from] > down[x.to] {
			rate = -rate
		}
		w.p.Rates[i] = rate
		over[x.from] -= rate
		over[x.to] += rate
		w.fills = append(w.fills, anyFill(r, x.capacity, s.batches))
	}
	for i, node := range ports {
		w.feeds = append(w.feeds, r.Intn(s.batches))
		if slices.Contains(ports[i+1:], node) {
			rate := r.Intn(2*s.rate+1) - s.rate
			w.p.Ports[i] = rate
			over[node] += rate
		} else {
			w.p.Ports[i] = -over[node]
		}
	}
	return w
}

// small and others are sizes of works.
var (
	small   = size{3, 4, 3, 6, 4, 3}
	medium  = size{5, 8, 5, 40, 12, 3}
	crowded = size{5, 8, 5, 400, 60, 3}
	large   = size{12, 32, 12, 300, 60, 30}
)

// expectDefinition checks Tick and Run by the definitions, and returns their error.
func (w work) expectDefinition(t *testing.T, ticks int) api.Errno {
	t.Helper()
	if e := flow.Check(w.n, w.p); e != api.OK {
		t.Fatalf("the plan %v in %v has the error %d", w.p, w.n, e)
	}
	want := w.run(ticks)
	w.expectRun(t, ticks, want.fills, want.out, want.e)
	return want.e
}

// P18.2: ticks of any plans, litre by litre.
func TestTickAny(t *testing.T) {
	r := rand.New(rand.NewSource(1))
	count := map[api.Errno]int{}
	for i := range 3000 {
		count[anyWork(r, []size{small, small, small, medium, crowded, large}[i%6]).expectDefinition(t, 1)]++
	}
	if count[api.OK] < 1000 || count[api.ErrLimit] < 20 {
		t.Errorf("so many ticks with each error: %v", count)
	}
}

// P18.3: runs of any plans, litre by litre.
func TestRunAny(t *testing.T) {
	r := rand.New(rand.NewSource(2))
	count := map[api.Errno]int{}
	for i := range 600 {
		count[anyWork(r, []size{small, medium, crowded, large}[i%4]).expectDefinition(t, r.Intn([]int{40, 20, 10, 6}[i%4]))]++
	}
	if count[api.OK] < 100 || count[api.ErrLimit] < 50 {
		t.Errorf("so many runs with each error: %v", count)
	}
}

// volumes are the litres of each batch.
func volumes(all ...[]api.Piece) map[int]int {
	sums := map[int]int{}
	for _, p := range slices.Concat(all...) {
		sums[p.Batch] += p.Volume
	}
	return sums
}

// P18.2, P18.3: for every batch, what was there and came in is what is there and flowed out; the fills stay valid.
func TestConservation(t *testing.T) {
	r := rand.New(rand.NewSource(3))
	for i := range 1000 {
		w, ticks := anyWork(r, []size{small, medium, large}[i%3]), r.Intn(20)
		fills, out, e := Run(w.n, w.fills, w.p, w.feeds, ticks)
		if e != api.OK {
			continue
		}
		if e := Check(w.n, fills); e != api.OK {
			t.Errorf("the fills %v of %v have the error %d", fills, w.n, e)
		}
		before, after := volumes(w.fills...), volumes(append(fills, out...)...)
		for i, rate := range w.p.Ports {
			before[w.feeds[i]] += ticks * max(rate, 0)
			if ticks*max(-rate, 0) != piece.Volume(out[i]) {
				t.Errorf("at port %d of %v, in %d ticks, %v has flowed out", i, w.p, ticks, out[i])
			}
		}
		for batch := range 30 {
			if before[batch] != after[batch] {
				t.Errorf("of batch %d there were %d litres, and then %d", batch, before[batch], after[batch])
			}
		}
		for i, rate := range w.p.Rates {
			if rate == 0 && !slices.Equal(fills[i], w.fills[i]) {
				t.Errorf("without a rate, %v became %v", w.fills[i], fills[i])
			}
		}
	}
}

// P18.3: a run is its ticks, one after the other, and also two shorter runs.
func TestRunParts(t *testing.T) {
	r := rand.New(rand.NewSource(4))
	for i := range 400 {
		w, first, second := anyWork(r, []size{small, medium}[i%2]), r.Intn(10), r.Intn(10)
		want := result(Run(w.n, w.fills, w.p, w.feeds, first+second))
		if want.e != api.OK {
			continue
		}
		ticks := w
		out := make([][]api.Piece, len(w.n.Ports))
		for range first + second {
			got := result(Tick(ticks.n, ticks.fills, ticks.p, ticks.feeds))
			ticks.fills = got.fills
			for i, list := range got.out {
				out[i] = merged(out[i], list)
			}
		}
		if got := (moved{ticks.fills, out, api.OK}); !got.equals(want) {
			t.Errorf("one after the other, %d ticks of %v are %v, want %v", first+second, w, got, want)
		}
		begun := result(Run(w.n, w.fills, w.p, w.feeds, first))
		ended := result(Run(w.n, begun.fills, w.p, w.feeds, second))
		for i := range ended.out {
			ended.out[i] = merged(begun.out[i], ended.out[i])
		}
		if !ended.equals(want) {
			t.Errorf("%d and %d ticks of %v are %v, want %v", first, second, w, ended, want)
		}
	}
}

// anyLine is a way over pipes that lie in any directions, with five ports at each end, through which so much flows from the first one.
func anyLine(r *rand.Rand, rate int) work {
	var pipes []pipe
	w := work{feeds: make([]int, 10)}
	count := 1 + r.Intn(6)
	nodes := r.Perm(count + 1)
	for i := range count {
		x, through := pipe{nodes[i], nodes[i+1], rate + r.Intn(30)}, rate
		if r.Intn(2) == 0 {
			x.from, x.to, through = x.to, x.from, -rate
		}
		pipes, w.p.Rates = append(pipes, x), append(w.p.Rates, through)
		w.fills = append(w.fills, anyFill(r, x.capacity, 3))
	}
	first, last := nodes[0], nodes[count]
	w.n = build(count+1, pipes, first, first, first, first, first, last, last, last, last, last)
	w.p.Ports = []int{rate, 0, 0, 0, 0, -rate, 0, 0, 0, 0}
	return w
}

// P18.2: on a way, the negated plan, fed with what flowed out, gives the fills that were there.
func TestUndo(t *testing.T) {
	r := rand.New(rand.NewSource(5))
	for range 1000 {
		rate := 1 + r.Intn(5)
		w := anyLine(r, rate)
		w.feeds[0] = r.Intn(3)
		fills, out, e := Tick(w.n, w.fills, w.p, w.feeds)
		if e != api.OK {
			t.Fatalf("a tick of %v has the error %d", w, e)
		}
		back := work{w.n, fills, plan(nil, make([]int, 10)...), make([]int, 10)}
		for _, rate := range w.p.Rates {
			back.p.Rates = append(back.p.Rates, -rate)
		}
		back.p.Ports[0] = -rate
		for i, p := range reversed(out[5]) {
			back.p.Ports[5+i], back.feeds[5+i] = p.Volume, p.Batch
		}
		was := make([][]api.Piece, 10)
		was[0] = pieces(w.feeds[0], rate)
		back.expectTick(t, w.fills, was)
	}
}

// P18.3: on a way, the batches stay in their order: what was in it, the last segment first, and what came in, leave it one behind the other.
func TestOrder(t *testing.T) {
	r := rand.New(rand.NewSource(6))
	for range 300 {
		w := anyLine(r, 1+r.Intn(5))
		w.feeds[0] = 7
		var want []int
		for i, rate := range slices.Backward(w.p.Rates) {
			fill := litresOf(w.fills)[i]
			if rate > 0 {
				slices.Reverse(fill)
			}
			want = append(want, fill...)
		}
		rate, ticks := w.p.Ports[0], len(want)/w.p.Ports[0]+2
		want = slices.Concat(want, slices.Repeat([]int{7}, 2*rate))[:ticks*rate]
		_, out, e := Run(w.n, w.fills, w.p, w.feeds, ticks)
		if got := piecesOf([][]int{want})[0]; e != api.OK || !slices.Equal(out[5], got) {
			t.Errorf("%d ticks of %v: %v, %d, want %v", ticks, w, out[5], e, got)
		}
	}
}

// P18.2, P18.3: ticks do not depend on the pumps, nor on what else is said of stations, pressures and profiles.
func TestPumps(t *testing.T) {
	w := example()
	w.n.Stations = []api.Station{{Name: "p", Node: 0, Suction: api.MaxPressure}, {Name: "q", Node: 1}}
	w.n.Vapour, w.n.Segments[0].Resist, w.n.Segments[1].Points[0].Limit = api.MaxPressure, 1000, 0
	for pumps := range 4 {
		w.p.Pumps = []bool{pumps&1 == 1, pumps&2 == 2}
		w.expectRun(t, 2, lists(pieces(5, 8, 1, 2), pieces(2, 4, 1, 6)), lists(nil, pieces(1, 2), pieces(2, 6)), api.OK)
	}
	w.p.Pumps = nil
	w.expectError(t, api.ErrInvalid)
}

// P18.3: the greatest networks and rates, for as long as it may be.
func TestGreatest(t *testing.T) {
	// Twelve ports, 32 pipes side by side, and twelve ports.
	var w work
	var pipes []pipe
	for range api.MaxSegments {
		pipes = append(pipes, pipe{0, 23, api.MaxCapacity})
		w.p.Rates = append(w.p.Rates, 375)
		w.fills = append(w.fills, pieces(5, api.MaxCapacity))
	}
	w.n = build(api.MaxNodes, pipes, slices.Repeat([]int{0, 23}, 12)...)
	w.p.Ports = slices.Repeat([]int{1000, -1000}, 12)
	w.feeds = slices.Repeat([]int{999, 0}, 12)
	w.expectRun(t, 400, slices.Repeat(lists(pieces(999, 150000, 5, 850000)), 32), slices.Repeat(lists(nil, pieces(5, 400000)), 12), api.OK)

	// All nodes one behind the other, and pipes that hold just what flows in a tick.
	w, pipes = work{}, nil
	var fills [][]api.Piece
	for i := range api.MaxNodes - 1 {
		pipes = append(pipes, pipe{i + 1, i, 1000})
		w.p.Rates = append(w.p.Rates, -1000)
		w.fills = append(w.fills, pieces(i, 1000))
		fills = append(fills, pieces(999, 1000))
	}
	w.n, w.p.Ports, w.feeds = build(api.MaxNodes, pipes, 0, 23), []int{1000, -1000}, []int{999, 0}
	var out []api.Piece
	for i := range slices.Backward(pipes) {
		out = append(out, api.Piece{Batch: i, Volume: 1000})
	}
	w.expectRun(t, 400, fills, lists(nil, append(out, pieces(999, 377000)...)), api.OK)
}

// P18.1, P18.2, P18.3: any numbers at all are no harm.
func TestAnyNumbers(t *testing.T) {
	r := rand.New(rand.NewSource(7))
	odd := []int{math.MinInt, -1001, -1, 0, 1, 2, 5, 999, 1000, 1 << 32, math.MaxInt}
	some := func() int { return odd[r.Intn(len(odd))] }
	for range 3000 {
		w := anyWork(r, small)
		for range 1 + r.Intn(3) {
			switch r.Intn(6) {
			case 0:
				w.feeds[r.Intn(len(w.feeds))] = some()
			case 1:
				w.p.Ports[r.Intn(len(w.p.Ports))] = some()
			case 2:
				w.p.Rates = append(w.p.Rates, some())
			case 3:
				w.fills = append(w.fills, pieces(some(), some(), some(), some()))
			case 4:
				w.n.Ports[r.Intn(len(w.n.Ports))].Node = some()
			case 5:
				w.n.Segments = append(w.n.Segments, api.Segment{Name: "odd", From: some(), To: some(), Capacity: some(), Points: make([]api.Point, 2)})
			}
		}
		for _, ticks := range []int{some(), 1, 3} {
			if got := result(Run(w.n, w.fills, w.p, w.feeds, ticks)); got.e != api.OK && len(got.fills)+len(got.out) > 0 {
				t.Errorf("%d ticks of %v have the error %d and results", ticks, w, got.e)
			}
		}
		Check(w.n, w.fills)
	}
}
