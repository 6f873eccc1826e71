package surge

import (
	"testing"

	"batchline/api"
)

// work is what Safe gets.
type work struct {
	n        api.Network
	batches  []api.Batch
	products []api.Product
	fills    [][]api.Piece
	changes  []api.Change
}

// water is n filled with water, with changes: on level ground without friction all that flows has the Pressure of the ports, 500000.
func water(n api.Network, changes ...api.Change) work {
	w := work{n: n, batches: []api.Batch{{}}, products: []api.Product{{Name: "water", Density: 1000, Friction: 1000}}, changes: changes}
	for _, s := range n.Segments {
		w.fills = append(w.fills, []api.Piece{{Volume: s.Capacity}})
	}
	return w
}

// at is the change to a plan at a tick.
func at(tick int, p api.Plan) api.Change { return api.Change{Tick: tick, Plan: p} }

// above is that the pressure of the segment i at its beginning is too great, below that it is too little.
func above(i int) api.Fault { return api.Fault{Kind: api.FaultHigh, Index: i} }
func below(i int) api.Fault { return api.Fault{Kind: api.FaultLow, Index: i} }

// suction is that the pressure of the station i is too little.
func suction(i int) api.Fault { return api.Fault{Kind: api.FaultSuction, Index: i} }

// none is the fault that is none.
var none api.Fault

// with returns w with another list of changes.
func (w work) with(changes ...api.Change) work {
	w.changes = changes
	return w
}

// limited returns w with another Limit of the segment i.
func (w work) limited(i, limit int) work {
	w.n.Segments = append([]api.Segment(nil), w.n.Segments...)
	w.n.Segments[i].Points = []api.Point{{Limit: limit}, {At: 1000, Limit: limit}}
	return w
}

// settled returns w with another Settle.
func (w work) settled(settle int) work {
	w.n.Settle = settle
	return w
}

// safe returns what Safe does.
func (w work) safe() (api.Fault, api.Errno) {
	return Safe(w.n, w.batches, w.products, w.fills, w.changes)
}

// expect checks the fault of w, with its error.
func (w work) expect(t *testing.T, want api.Fault) {
	t.Helper()
	wantErr := api.ErrPressure
	if want == none {
		wantErr = api.OK
	}
	if got, e := w.safe(); got != want || e != wantErr {
		t.Errorf("Safe of %.1999s = %v, %d, want %v, %d", text(w), got, e, want, wantErr)
	}
}

// expectError checks that Safe has an error, and no fault.
func (w work) expectError(t *testing.T, want api.Errno) {
	t.Helper()
	if got, e := w.safe(); got != none || e != want {
		t.Errorf("Safe of %.1999s = %v, %d, want the error %d", text(w), got, e, want)
	}
}

// expectRoom checks that the greatest surge of the segment i is room, where neither High nor Low of any other segment comes near to its end.
func (w work) expectRoom(t *testing.T, i, room int) {
	t.Helper()
	w.limited(i, 500000+room).expect(t, none)
	w.limited(i, 499999+room).expect(t, above(i))
	w.n.Vapour = 500000 - room
	w.expect(t, none)
	w.n.Vapour++
	if got, e := w.safe(); got.Kind != api.FaultLow || e != api.ErrPressure {
		t.Errorf("Safe of %.1999s = %v, %d, want a FaultLow", text(w), got, e)
	}
}

// P22.2: the example of the chapter: two changes add up within Settle, and not behind it.
func TestSafeExample(t *testing.T) {
	n := build(3, pipe{0, 1, 10}, pipe{1, 2, 20})
	first, second, third := fed(n, 100, 100), fed(n, 80, 80), fed(n, 60, 60)
	for settle := range 12 {
		for _, between := range []int{1, 2, 5, 10, 11} {
			w := water(n, at(0, first), at(7, second), at(7+between, third)).settled(settle)
			room := 600
			if between <= settle {
				room = 1200
			}
			w.expectRoom(t, 0, room)
			w.expectRoom(t, 1, room)
		}
	}
}

// P22.2: one plan alone is checked without any surge, and so is the beginning of all others.
func TestSafeFirstPlan(t *testing.T) {
	n := build(3, pipe{0, 1, 100000}, pipe{1, 2, 100000})
	water(n, at(0, fed(n, 100, 100))).expectRoom(t, 0, 0)
	water(n, at(0, fed(n, 100, 100))).expectRoom(t, 1, 0)
	w := water(n, at(0, fed(n, 0, 0)))
	w.limited(0, 0).expect(t, none)
	w = w.with(at(0, fed(n, 5, 5)), at(1, fed(n, 0, 0)))
	w.limited(1, 499999).expect(t, above(1))
	w.limited(1, 0).limited(0, 499999).expect(t, above(0))
}

// P22.2: the first change, at the tick 0, has no rise: not even within Settle.
func TestSafeFirstChange(t *testing.T) {
	n := build(3, pipe{0, 1, 10}, pipe{1, 2, 20})
	water(n, at(0, fed(n, 100, 100)), at(1, fed(n, 99, 99))).settled(100).expectRoom(t, 0, 30)
	water(n, at(0, fed(n, 100, 100)), at(1, fed(n, 100, 100))).settled(100).expectRoom(t, 0, 0)
}

// P22.2: rises of many changes add up, in which rates go up and down.
func TestSafeManyChanges(t *testing.T) {
	n := build(2, pipe{0, 1, 10})
	for _, x := range []struct{ settle, room int }{{0, 90}, {1, 90}, {2, 120}, {5, 120}, {6, 130}, {7, 130}, {8, 190}, {11, 190}, {12, 200}, {27, 200}, {28, 230}, {99, 230}} {
		w := water(n).settled(x.settle)
		// Rises:           -          60              10              30              90             10             30
		w = w.with(at(0, fed(n, 12)), at(3, fed(n, 6)), at(5, fed(n, 7)), at(9, fed(n, 10)), at(11, fed(n, 1)), at(15, fed(n, 2)), at(31, fed(n, 5)))
		w.expectRoom(t, 0, x.room)
	}
}

// P22.2: a change has the surge of all rises that have not settled, also if it has none itself.
func TestSafeNoRise(t *testing.T) {
	n := build(2, pipe{0, 1, 10})
	slow, fast := fed(n, 5), fed(n, 8)
	w := water(n, at(0, slow), at(5, fast), at(9, fast)).settled(4)
	w.expectRoom(t, 0, 30)
	w.settled(3).expectRoom(t, 0, 30)
	// The station runs with the last plan alone: its boost brings only this one near to the limit.
	w.n.Stations = []api.Station{{Name: "p", Node: 0, Head: 1000}}
	for i := range w.changes {
		w.changes[i].Plan.Pumps = []bool{i == 2}
	}
	w.limited(0, 501030).expect(t, none)
	w.limited(0, 501029).expect(t, above(0))
	w.settled(3).limited(0, 501000).expect(t, none)
	w.settled(3).limited(0, 500999).expect(t, above(0))
}

// P22.2: each segment has the surge of its own group.
func TestSafeGroups(t *testing.T) {
	n := build(6, pipe{0, 1, 10}, pipe{2, 3, 20}, pipe{1, 4, 40}, pipe{4, 5, 70})
	a, b, c := fed(n, 1, 1, 1, 0), fed(n, 3, 2, 1, 0), fed(n, 3, 9, 2, 0)
	w := water(n, at(0, a), at(10, b), at(20, c)).settled(9)
	for _, x := range []struct{ settle, first, second int }{{9, 40, 140}, {10, 60, 160}} {
		w := w.settled(x.settle)
		w.limited(0, 500000+x.first).expect(t, none)
		w.limited(0, 499999+x.first).expect(t, above(0))
		w.limited(1, 500000+x.second).expect(t, none)
		w.limited(1, 499999+x.second).expect(t, above(1))
		w.limited(2, 500000+x.first).expect(t, none)
		w.limited(2, 499999+x.first).expect(t, above(2))
		w.limited(3, 0).expect(t, none)
	}
}

// P22.2: the groups of each change are those of its own two plans.
func TestSafeOwnGroups(t *testing.T) {
	n := build(4, pipe{0, 1, 10}, pipe{1, 2, 20}, pipe{2, 3, 40})
	// The segment 1 joins the others from the second change on.
	w := water(n, at(0, fed(n, 9, 0, 9)), at(1, fed(n, 8, 0, 9)), at(5, fed(n, 8, 1, 9)), at(9, fed(n, 8, 0, 8)))
	w = w.settled(3)
	w.limited(2, 500060).expect(t, none)
	w.limited(2, 500059).expect(t, above(2))
	w = w.settled(4)
	w.limited(2, 500080).expect(t, none)
	w.limited(2, 500079).expect(t, above(2))
	w.limited(0, 500080).expect(t, none)
	w.limited(0, 500079).expect(t, above(0))
	w = w.settled(8)
	w.limited(2, 500080).expect(t, none)
	w.limited(2, 500079).expect(t, above(2))
	w.limited(0, 500090).expect(t, none)
	w.limited(0, 500089).expect(t, above(0))
}

// P22.2: at each change, both plans have its surge: that which ends, and that which begins.
func TestSafeBothPlans(t *testing.T) {
	n := build(2, pipe{0, 1, 10}, pipe{1, 0, 10})
	w := water(n, at(0, fed(n, 3, 0)), at(1, fed(n, 0, 0)))
	w.expectRoom(t, 0, 30)
	w.limited(1, 0).expect(t, none)
	w = water(n, at(0, fed(n, 0, 0)), at(1, fed(n, 3, 0)))
	w.expectRoom(t, 0, 30)
	w.limited(1, 0).expect(t, none)
	w = water(n, at(0, fed(n, 0, 0)), at(1, fed(n, 3, 0)), at(2, fed(n, 0, 0)))
	w.limited(0, 500030).expect(t, none)
	w.limited(0, 500029).expect(t, above(0))
	w = w.settled(1)
	w.limited(0, 500060).expect(t, none)
	w.limited(0, 500059).expect(t, above(0))
}

// P22.2: of two plans at a change, the one that ends comes first, whatever the segments.
func TestSafeFirstFault(t *testing.T) {
	n := build(2, pipe{0, 1, 10}, pipe{0, 1, 10})
	only := []api.Plan{fed(n, 4, 0), fed(n, 0, 4)}
	for i := range only {
		w := water(n, at(0, only[i]), at(5, only[1-i]))
		w.limited(0, 500079).limited(1, 500079).expect(t, above(i))
		w.limited(i, 500079).expect(t, above(i))
		w.limited(1-i, 500079).expect(t, above(1-i))
		w.expectRoom(t, 0, 80)
	}
}

// P22.2: an earlier change comes first, whatever its fault.
func TestSafeFirstChangeWithFault(t *testing.T) {
	n := build(4, pipe{0, 1, 10}, pipe{2, 3, 10})
	a, b, c := fed(n, 4, 4), fed(n, 4, 7), fed(n, 9, 7)
	w := water(n, at(0, a), at(5, b), at(9, c))
	w.limited(0, 500049).limited(1, 500029).expect(t, above(1))
	w.limited(0, 500049).limited(1, 500030).expect(t, above(0))
	w.limited(0, 499999).limited(1, 499999).expect(t, above(0))
	w = w.with(at(0, a), at(5, c), at(9, b))
	w.limited(0, 500049).limited(1, 500029).expect(t, above(0))
	w.limited(0, 500050).limited(1, 500029).expect(t, above(1))
}

// P22.2: stations that run are looked at with the plan in which they do. No surge is taken from the pressure of a node.
func TestSafeSuction(t *testing.T) {
	n := build(2, pipe{0, 1, 10})
	n.Stations = []api.Station{{Name: "p", Node: 0, Suction: 500000}, {Name: "q", Node: 1, Suction: 500001}}
	plan := func(rate int, pumps ...bool) api.Plan {
		p := fed(n, rate)
		p.Pumps = pumps
		return p
	}
	water(n, at(0, plan(5, true, false)), at(1, plan(9, true, false)), at(2, plan(0, true, true))).settled(9).expect(t, none)
	water(n, at(0, plan(5, true, true)), at(1, plan(5, true, false))).expect(t, suction(1))
	water(n, at(0, plan(5, true, false)), at(1, plan(5, true, true))).expect(t, suction(1))
	water(n, at(0, plan(5, true, true)), at(1, plan(9, true, true))).limited(0, 500001).expect(t, suction(1))
	w := water(n, at(0, plan(5, true, false)), at(1, plan(9, true, true)))
	w.limited(0, 500039).expect(t, above(0))
	w.limited(0, 500040).expect(t, suction(1))
}

// P22.2: all plans have the same fills, also those of changes a long time behind the first one.
func TestSafeSameFills(t *testing.T) {
	n := build(2, pipe{0, 1, 0})
	n.Segments[0].Resist = 1
	w := water(n, at(0, fed(n, 0)), at(1000, fed(n, 100)), at(api.MaxTime, fed(n, 100)))
	w.products = append(w.products, api.Product{Name: "tar", Density: 1000, Friction: 2000})
	w.batches = append(w.batches, api.Batch{Product: 1})
	w.fills[0] = []api.Piece{{Batch: 0, Volume: 500}, {Batch: 1, Volume: 500}}
	w.n.Vapour = 500000 - 15000
	w.expect(t, none)
	w.n.Vapour++
	w.expect(t, api.Fault{Kind: api.FaultLow, Index: 0, At: 1000})
}

// P22.2: the longest list of changes, in the greatest network, with the greatest Waves: all rises add up.
func TestSafeGreatest(t *testing.T) {
	var pipes []pipe
	for i := range api.MaxSegments {
		pipes = append(pipes, pipe{i % 2, 1 - i%2, 100000})
	}
	n := build(2, pipes...)
	w := water(n).settled(api.MaxSettle)
	for k := range api.MaxChanges {
		rates := make([]int, len(pipes))
		for i := range rates {
			rates[i] = (1 + 30*(k%2)) * (1 - i%2*2) // all of them from node 0 to node 1
		}
		w.changes = append(w.changes, at(k, fed(n, rates...)))
	}
	w.n.Vapour = -100000
	w.expect(t, below(0)) // the first surge is 96000000
	for i := range w.n.Segments {
		w.n.Segments[i].Wave = i / 31 * 5
	}
	w.expectRoom(t, 0, 39*30*5)
	w.expectRoom(t, 31, 39*30*5)
	w.settled(38).expectRoom(t, 17, 39*30*5)
	w.settled(37).expectRoom(t, 17, 38*30*5)
}
