package steady

import (
	"cmp"
	"math/rand"
	"slices"
	"strconv"
	"testing"

	"batchline/api"
	"batchline/flow"
	"batchline/gradient"
	"batchline/station"
)

// meaning is the pressures of w by their definition: those of a node are asked for from the other end, by way of all that flows to it.
type meaning struct {
	w     work
	nodes map[int][]api.Bounds // of the nodes that were asked for: none or one
}

// meaningOf is what w means.
func meaningOf(w work) meaning { return meaning{w, map[int][]api.Bounds{}} }

// ends are the nodes from which and to which the segment i flows.
func (w work) ends(i int) (int, int) {
	s := w.n.Segments[i]
	if w.p.Rates[i] < 0 {
		return s.To, s.From
	}
	return s.From, s.To
}

// amount is that of the rate of the segment i.
func (w work) amount(i int) int { return max(w.p.Rates[i], -w.p.Rates[i]) }

// node is the bounds of a node, or none.
func (m meaning) node(node int) []api.Bounds {
	if b, ok := m.nodes[node]; ok {
		return b
	}
	var lows, highs []int
	for i, rate := range m.w.p.Ports {
		if port := m.w.n.Ports[i]; port.Node == node && rate > 0 {
			lows, highs = append(lows, port.Pressure), append(highs, port.Pressure)
		}
	}
	for i := range m.w.n.Segments {
		if _, to := m.w.ends(i); to == node && m.w.amount(i) > 0 {
			l := m.levels(i)
			end := l[len(l)-1]
			if m.w.p.Rates[i] < 0 {
				end = l[0]
			}
			lows, highs = append(lows, end.Bounds.Low), append(highs, end.Bounds.High)
		}
	}
	m.nodes[node] = nil
	if len(lows) > 0 {
		m.nodes[node] = []api.Bounds{{Low: slices.Min(lows), High: slices.Min(highs)}}
	}
	return m.nodes[node]
}

// levels are those of the segment i.
func (m meaning) levels(i int) []api.Level {
	w := m.w
	if w.amount(i) == 0 {
		return nil
	}
	from, _ := w.ends(i)
	in := m.node(from)[0]
	for k, s := range w.n.Stations {
		if s.Node != from || !w.p.Pumps[k] {
			continue
		}
		sum := 0
		for other := range w.n.Segments {
			if start, _ := w.ends(other); start == from {
				sum += w.amount(other)
			}
		}
		in, _ = station.Raise(s, in, sum)
	}
	l, _ := gradient.Along(w.n.Segments[i], w.fills[i], w.batches, w.products, w.p.Rates[i], in)
	return l
}

// pressures are all of w.
func (m meaning) pressures() api.Pressures {
	var x api.Pressures
	for node := range m.w.n.Nodes {
		b := m.node(node)
		x.Known = append(x.Known, len(b) > 0)
		x.Nodes = append(x.Nodes, append(b, api.Bounds{})[0])
	}
	for i := range m.w.n.Segments {
		x.Segments = append(x.Segments, m.levels(i))
	}
	return x
}

// limits are the greatest pressures of all places of s.
func limits(s api.Segment) []int {
	all := slices.Repeat([]int{api.MaxPressure}, s.Capacity+1)
	for i := 1; i < len(s.Points); i++ {
		for at := s.Points[i-1].At; at <= s.Points[i].At; at++ {
			all[at] = min(all[at], s.Points[i-1].Limit, s.Points[i].Limit)
		}
	}
	return all
}

// ranked is a fault with what tells how early it is looked for.
type ranked struct {
	fault api.Fault
	rank  [4]int
}

// faults are all of h, in any order.
func (h held) faults() []ranked {
	var all []ranked
	for i, s := range h.network.Stations {
		if h.pressures.Known[s.Node] && h.plan.Pumps[i] && s.Suction > h.pressures.Nodes[s.Node].Low {
			all = append(all, ranked{suction(i), [4]int{1, i}})
		}
	}
	for i, list := range h.pressures.Segments {
		most := limits(h.network.Segments[i])
		for k, l := range list {
			if h.network.Vapour > l.Bounds.Low-h.extra[i] {
				all = append(all, ranked{low(i, l.At), [4]int{0, i, k, 1}})
			}
			if most[l.At] < l.Bounds.High+h.extra[i] {
				all = append(all, ranked{high(i, l.At), [4]int{0, i, k, 0}})
			}
		}
	}
	return all
}

// first is the first fault of h, by its definition.
func (h held) first() api.Fault {
	all := h.faults()
	if len(all) == 0 {
		return none
	}
	return slices.MinFunc(all, func(a, b ranked) int { return slices.Compare(a.rank[:], b.rank[:]) }).fault
}

// near is any number from least to most, often one of the two.
func near(r *rand.Rand, least, most int) int {
	switch r.Intn(8) {
	case 0:
		return least
	case 1:
		return most
	}
	return least + r.Intn(most-least+1)
}

// size is how large works may be.
type size struct{ nodes, pipes, capacity, rate int }

// anyNetwork is one with a port at each node, and others.
func anyNetwork(r *rand.Rand, s size) api.Network {
	nodes := 2 + r.Intn(s.nodes-1)
	var pipes []pipe
	for range r.Intn(s.pipes + 1) {
		ends := r.Perm(nodes)
		pipes = append(pipes, pipe{ends[0], ends[1], 1 + r.Intn(s.capacity), near(r, 0, []int{5, 1000}[r.Intn(2)])})
	}
	ports := r.Perm(nodes)
	for range r.Intn(min(3, api.MaxPorts-nodes+1)) {
		ports = append(ports, r.Intn(nodes))
	}
	n := build(nodes, pipes, ports...)
	for i := range n.Ports {
		n.Ports[i].Pressure = near(r, 0, 3000000)
	}
	for i := range n.Segments {
		n.Segments[i].Points = anyPoints(r, n.Segments[i].Capacity)
	}
	for i, node := range r.Perm(nodes)[:r.Intn(min(nodes, api.MaxStations)+1)] {
		n.Stations = append(n.Stations, pump("pump-"+strconv.Itoa(i), node, near(r, 0, 2000000), near(r, 0, 100000), near(r, 0, 200000)))
	}
	n.Vapour = near(r, -100000, 100000)
	return n
}

// anyPoints are points of a segment with this capacity.
func anyPoints(r *rand.Rand, capacity int) []api.Point {
	at := []int{0, capacity}
	for range r.Intn(api.MaxPoints - 1) {
		at = append(at, r.Intn(capacity+1))
	}
	slices.Sort(at)
	var list []api.Point
	for _, place := range slices.Compact(at) {
		list = append(list, api.Point{At: place, Height: r.Intn(60), Limit: near(r, 2000000, 8000000)})
	}
	return list
}

// anyFill is a valid fill with this volume.
func anyFill(r *rand.Rand, volume, batches int) []api.Piece {
	ends := append(r.Perm(volume)[:r.Intn(min(volume, 8))], volume)
	slices.Sort(ends)
	var f []api.Piece
	last, batch := 0, r.Intn(batches)
	for _, end := range ends {
		if end > last {
			f = append(f, api.Piece{Batch: batch, Volume: end - last})
			last, batch = end, (batch+1+r.Intn(batches-1))%batches
		}
	}
	return f
}

// anyPlan is one that flows down a list of the nodes of n, with ports that take up what is over.
func anyPlan(r *rand.Rand, n api.Network, most int) api.Plan {
	p := api.Plan{Rates: make([]int, len(n.Segments)), Ports: make([]int, len(n.Ports)), Pumps: make([]bool, len(n.Stations))}
	over, down := make([]int, len(n.Nodes)), r.Perm(len(n.Nodes))
	for i, s := range n.Segments {
		rate := r.Intn(min(s.Capacity, most) + 1)
		if down[s.From] > down[s.To] {
			rate = -rate
		}
		if r.Intn(4) == 0 {
			rate = 0
		}
		p.Rates[i] = rate
		over[s.From] -= rate
		over[s.To] += rate
	}
	for i, port := range slices.Backward(n.Ports) {
		p.Ports[i] = -over[port.Node]
		if i >= len(n.Nodes) {
			p.Ports[i] = r.Intn(2*most+1) - most
		}
		over[port.Node] += p.Ports[i]
	}
	for i := range p.Pumps {
		p.Pumps[i] = r.Intn(3) > 0
	}
	return p
}

// anyWork is a valid plan in a network with fills.
func anyWork(r *rand.Rand, s size) work {
	w := work{n: anyNetwork(r, s)}
	for i := range 2 + r.Intn(5) {
		w.products = append(w.products, api.Product{Name: "liquid-" + strconv.Itoa(i), Density: near(r, 400, 1200), Friction: near(r, 1, 2000)})
	}
	for range 2 + r.Intn(9) {
		w.batches = append(w.batches, api.Batch{Product: r.Intn(len(w.products)), Shipper: "a", From: -1, To: 99})
	}
	for _, x := range w.n.Segments {
		w.fills = append(w.fills, anyFill(r, x.Capacity, len(w.batches)))
	}
	// Where many segments are at a node, a port cannot take up all of it but for lesser rates.
	for most := s.rate; ; most = most * 3 / 4 {
		w.p = anyPlan(r, w.n, most)
		if most == 0 || flow.Check(w.n, w.p) == api.OK {
			return w
		}
	}
}

// sizes are those of works.
var sizes = []size{{3, 4, 10, 10}, {5, 8, 100, 50}, {12, 32, 300, 100}, {24, 32, 5000, 300}}

// P21.1, P21.2, P21.3: any plans, against the definitions.
func TestAny(t *testing.T) {
	r := rand.New(rand.NewSource(21))
	count := map[int]int{}
	for i := range 4000 {
		w := anyWork(r, sizes[i%len(sizes)])
		x := meaningOf(w).pressures()
		w.expectSolve(t, x)
		h := held{w.n, x, w.p, make([]int, len(w.n.Segments))}
		first, wantErr := h.first(), api.OK
		if first != none {
			wantErr = api.ErrPressure
		}
		w.expectCheck(t, first, wantErr)
		count[first.Kind]++
		for i := range h.extra {
			h.extra[i] = near(r, 0, 100000)
		}
		h.expect(t, h.first())
	}
	for kind := range 4 {
		if count[kind] < 50 {
			t.Errorf("so many plans with each kind of fault: %v", count)
		}
	}
}

// P21.2: any levels and bounds, near to the envelope.
func TestBreakAny(t *testing.T) {
	r := rand.New(rand.NewSource(22))
	count := map[int]int{}
	for range 10000 {
		h := held{network: anyNetwork(r, sizes[1])}
		n := h.network
		around := func(middle int) int { return middle + r.Intn(40) - 1 }
		h.pressures = api.Pressures{Known: make([]bool, len(n.Nodes)), Nodes: make([]api.Bounds, len(n.Nodes))}
		for i := range h.pressures.Known {
			h.pressures.Known[i] = r.Intn(5) > 0
		}
		for i, s := range n.Stations {
			n.Stations[i].Suction = r.Intn(100)
			h.pressures.Nodes[s.Node] = api.Bounds{Low: around(n.Stations[i].Suction), High: r.Intn(9)}
			h.plan.Pumps = append(h.plan.Pumps, r.Intn(5) > 0)
		}
		for _, s := range n.Segments {
			extra, most := r.Intn(200000), limits(s)
			var list []api.Level
			for range r.Intn(6) {
				at := r.Intn(s.Capacity + 1)
				list = append(list, levels(at, around(n.Vapour+extra), -around(extra-most[at]))...)
			}
			h.extra, h.pressures.Segments = append(h.extra, extra), append(h.pressures.Segments, list)
		}
		h.expect(t, h.first())
		count[h.first().Kind]++
	}
	for kind := range 4 {
		if count[kind] < 100 {
			t.Errorf("so many pressures with each kind of fault: %v", count)
		}
	}
}

// Consequences: a plan that is checked keeps its envelope at every place, also between breaks.
func TestBetweenBreaks(t *testing.T) {
	r := rand.New(rand.NewSource(23))
	checked := 0
	for i := range 3000 {
		w := anyWork(r, sizes[i%3])
		if _, e := Check(w.n, w.batches, w.products, w.fills, w.p); e != api.OK {
			continue
		}
		x, _ := w.solve()
		for i, list := range x.Segments {
			most := limits(w.n.Segments[i])
			for k := 1; k < len(list); k++ {
				checked++
				a, b := list[k-1], list[k]
				for at := a.At; at <= b.At; at++ {
					highest := a.Bounds.High*(b.At-at) + b.Bounds.High*(at-a.At)
					lowest := a.Bounds.Low*(b.At-at) + b.Bounds.Low*(at-a.At)
					if highest > most[at]*(b.At-a.At) || lowest < w.n.Vapour*(b.At-a.At) {
						t.Errorf("segment %d of %.999s leaves its envelope at %d", i, text(w), at)
					}
				}
			}
		}
	}
	if checked < 500 {
		t.Errorf("%d parts were looked at", checked)
	}
}

// Consequences: more extra never mends a fault, but moves the first one ahead, if at all.
func TestMoreExtra(t *testing.T) {
	r := rand.New(rand.NewSource(24))
	for i := range 2000 {
		w := anyWork(r, sizes[i%3])
		x, _ := w.solve()
		extra := make([]int, len(w.n.Segments))
		const beyond = api.MaxSegments + api.MaxStations
		last := beyond
		for range 5 {
			fault, found := Break(w.n, x, w.p, extra)
			if !found && last < beyond {
				t.Errorf("with %v, %.999s has no fault", extra, text(w))
			}
			if found {
				rank := fault.Index
				if fault.Kind == api.FaultSuction {
					rank += api.MaxSegments
				}
				if rank > last {
					t.Errorf("with %v, %.999s has only %v", extra, text(w), fault)
				}
				last = rank
			}
			for i := range extra {
				extra[i] += r.Intn(200000)
			}
		}
	}
}

// areAtLeast reports whether no bound of a is below that of b, and all that is known in one is known in both.
func areAtLeast(a, b api.Pressures) bool {
	isBelow := func(x, y api.Bounds) bool { return x.Low < y.Low || x.High < y.High }
	compare := func(x, y api.Level) int {
		return cmp.Compare(0, min(0, x.Bounds.Low-y.Bounds.Low, x.Bounds.High-y.Bounds.High))
	}
	for i := range a.Nodes {
		if isBelow(a.Nodes[i], b.Nodes[i]) {
			return false
		}
	}
	for i := range a.Segments {
		if len(a.Segments[i]) != len(b.Segments[i]) || slices.CompareFunc(a.Segments[i], b.Segments[i], compare) != 0 {
			return false
		}
	}
	return slices.Equal(a.Known, b.Known)
}

// Consequences: neither a higher Pressure of a port nor a station that runs lowers a level.
func TestHigher(t *testing.T) {
	r := rand.New(rand.NewSource(25))
	for i := range 2000 {
		w := anyWork(r, sizes[i%len(sizes)])
		before, _ := w.solve()
		i := r.Intn(len(w.n.Ports))
		w.n.Ports[i].Pressure += r.Intn(1000000)
		after, _ := w.solve()
		if !areAtLeast(after, before) {
			t.Errorf("with a higher port %d, %.999s has %.999s, not %.999s", i, text(w), text(after), text(before))
		}
		for i := range w.p.Pumps {
			w.p.Pumps[i] = false
			off, _ := w.solve()
			w.p.Pumps[i] = true
			on, _ := w.solve()
			if !areAtLeast(on, off) {
				t.Errorf("with the station %d, %.999s has %.999s, not %.999s", i, text(w), text(on), text(off))
			}
		}
	}
}

// Consequences: each node from which or to which something flows is known, and no other.
func TestKnown(t *testing.T) {
	r := rand.New(rand.NewSource(26))
	for i := range 1000 {
		w := anyWork(r, sizes[i%len(sizes)])
		x, _ := w.solve()
		for node, known := range x.Known {
			through, e := flow.Through(w.n, w.p, node)
			if known != (through > 0) || e != api.OK || !known && x.Nodes[node] != (api.Bounds{}) {
				t.Errorf("node %d of %.999s, with %d litres per tick, is known: %t, %v", node, text(w), through, known, x.Nodes[node])
			}
		}
	}
}
