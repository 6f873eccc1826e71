package surge

import (
	"math"
	"slices"
	"testing"

	"batchline/api"
)

// ring is a network in which every kind of error of a plan can be made: its segments 1 and 2 can flow in a circle.
func ring() api.Network {
	n := build(3, pipe{0, 1, 1}, pipe{1, 2, 2}, pipe{2, 1, 4})
	n.Segments[2].Capacity = 20
	n.Segments[2].Points[1].At = 20
	n.Stations = []api.Station{{Name: "p", Node: 0}}
	return n
}

// spoiler makes an error of something.
type spoiler[T any] struct {
	want  api.Errno
	spoil func(x *T)
}

// planSpoilers make the errors of a plan for ring, in the order of these errors.
var planSpoilers = []spoiler[api.Plan]{
	{api.ErrInvalid, func(p *api.Plan) { p.Pumps = nil }},
	{api.ErrInvalid, func(p *api.Plan) { p.Pumps = []bool{true, true} }},
	{api.ErrInvalid, func(p *api.Plan) { p.Rates = p.Rates[:2] }},
	{api.ErrInvalid, func(p *api.Plan) { p.Rates = append(slices.Clone(p.Rates), 0) }},
	{api.ErrInvalid, func(p *api.Plan) { p.Ports = p.Ports[:2] }},
	{api.ErrInvalid, func(p *api.Plan) { p.Ports = append(slices.Clone(p.Ports), 0) }},
	{api.ErrInvalid, func(p *api.Plan) { *p = api.Plan{} }},
	{api.ErrRange, func(p *api.Plan) { p.Rates = []int{5, 26, 21} }},
	{api.ErrRange, func(p *api.Plan) { p.Rates = []int{5, -16, -21} }},
	{api.ErrRange, func(p *api.Plan) { p.Rates = []int{math.MinInt, 5, 0} }},
	{api.ErrRange, func(p *api.Plan) { p.Rates = []int{math.MaxInt, 5, 0} }},
	{api.ErrRange, func(p *api.Plan) { p.Ports = []int{1001, 0, -5} }},
	{api.ErrRange, func(p *api.Plan) { p.Ports = []int{5, 0, math.MinInt} }},
	{api.ErrBalance, func(p *api.Plan) { p.Rates = []int{5, 4, 0} }},
	{api.ErrBalance, func(p *api.Plan) { p.Ports = []int{5, 1, -5} }},
	{api.ErrCycle, func(p *api.Plan) { p.Rates = []int{5, 15, 10} }},
	{api.ErrCycle, func(p *api.Plan) { p.Rates = []int{5, -5, -10} }},
}

// P22.1: each error of a plan, of a, of b, and of both, of which that of a counts.
func TestPlanErrors(t *testing.T) {
	n := ring()
	good := fed(n, 5, 5, 0)
	expectRise(t, n, good, good, [][]int{{0, 1}}, []int{0, 0, 0})
	for _, x := range planSpoilers {
		bad := fed(n, 5, 5, 0)
		x.spoil(&bad)
		expectError(t, n, bad, good, x.want)
		expectError(t, n, good, bad, x.want)
		expectError(t, n, bad, bad, x.want)
		for _, y := range planSpoilers {
			worse := fed(n, 5, 5, 0)
			y.spoil(&worse)
			expectError(t, n, bad, worse, x.want)
		}
	}
}

// networkSpoilers make the errors of a network.
var networkSpoilers = []spoiler[api.Network]{
	{api.ErrLimit, func(n *api.Network) { *n = api.Network{} }},
	{api.ErrLimit, func(n *api.Network) { n.Nodes = make([]string, api.MaxNodes+1) }},
	{api.ErrLimit, func(n *api.Network) { n.Segments = slices.Repeat(n.Segments[:1], api.MaxSegments+1) }},
	{api.ErrForm, func(n *api.Network) { n.Nodes[2] = "" }},
	{api.ErrTwice, func(n *api.Network) { n.Segments[1].Name = n.Segments[0].Name }},
	{api.ErrUnknown, func(n *api.Network) { n.Segments[1].From = 3 }},
	{api.ErrUnknown, func(n *api.Network) { n.Segments[1].To = -1 }},
	{api.ErrUnknown, func(n *api.Network) { n.Ports[0].Node = math.MaxInt }},
	{api.ErrInvalid, func(n *api.Network) { n.Segments[1].To = n.Segments[1].From }},
	{api.ErrInvalid, func(n *api.Network) { n.Segments[2].Wave = 100001 }},
	{api.ErrInvalid, func(n *api.Network) { n.Segments[2].Wave = -1 }},
	{api.ErrInvalid, func(n *api.Network) { n.Settle = api.MaxSettle + 1 }},
	{api.ErrInvalid, func(n *api.Network) { n.Settle = -1 }},
}

// P22.1, P22.2: networks that are not valid come ahead of what is wrong with a plan.
func TestNetworkErrors(t *testing.T) {
	for _, x := range networkSpoilers {
		n := ring()
		good, bad := fed(n, 5, 5, 0), fed(n, 5, 5, 1)
		x.spoil(&n)
		for _, p := range []api.Plan{good, bad, {}} {
			expectError(t, n, p, p, x.want)
			water(n, at(0, p)).expectError(t, x.want)
			water(n, at(0, p), at(1, bad)).expectError(t, x.want)
		}
	}
}

// P22.2: there is at least one change, and there are at most MaxChanges.
func TestSafeLimit(t *testing.T) {
	n := ring()
	var list []api.Change
	for k := range api.MaxChanges + 3 {
		w := water(n, list...)
		if k == 0 || k > api.MaxChanges {
			w.expectError(t, api.ErrLimit)
		} else {
			w.expect(t, none)
		}
		list = append(list, at(k, fed(n, 5, 5, 0)))
	}
	work{}.expectError(t, api.ErrLimit)
	work{changes: make([]api.Change, api.MaxChanges+1)}.expectError(t, api.ErrLimit)
}

// P22.2: changes begin at the tick 0, ascend strictly, and end at MaxTime.
func TestSafeOrder(t *testing.T) {
	n := ring()
	for _, x := range []struct {
		want  api.Errno
		ticks []int
	}{
		{api.OK, []int{0}},
		{api.ErrOrder, []int{1}},
		{api.ErrOrder, []int{-1}},
		{api.ErrOrder, []int{math.MinInt}},
		{api.ErrOrder, []int{math.MaxInt}},
		{api.OK, []int{0, 1}},
		{api.OK, []int{0, 1, 2, 3}},
		{api.OK, []int{0, 5, 1000000}},
		{api.ErrOrder, []int{0, 0}},
		{api.ErrOrder, []int{0, -1}},
		{api.ErrOrder, []int{1, 2}},
		{api.ErrOrder, []int{-1, 0}},
		{api.ErrOrder, []int{-1, 1}},
		{api.ErrOrder, []int{0, 5, 5}},
		{api.ErrOrder, []int{0, 5, 4}},
		{api.ErrOrder, []int{0, 5, 4, 6}},
		{api.ErrOrder, []int{0, 5, 0, 6}},
		{api.ErrOrder, []int{0, 0, 5}},
		{api.ErrOrder, []int{0, 5, math.MinInt}},
		{api.ErrOrder, []int{0, math.MinInt, 5}},
		{api.OK, []int{0, api.MaxTime}},
		{api.OK, []int{0, api.MaxTime - 1, api.MaxTime}},
		{api.ErrOrder, []int{0, api.MaxTime + 1}},
		{api.ErrOrder, []int{0, api.MaxTime, api.MaxTime + 1}},
		{api.ErrOrder, []int{0, api.MaxTime + 1, api.MaxTime}},
		{api.ErrOrder, []int{0, api.MaxTime + 1, 5}},
		{api.ErrOrder, []int{0, math.MaxInt}},
		{api.ErrOrder, []int{0, math.MaxInt, math.MinInt}},
		{api.ErrOrder, []int{math.MaxInt, math.MinInt}},
	} {
		var list []api.Change
		for _, tick := range x.ticks {
			list = append(list, at(tick, fed(n, 5, 5, 0)))
		}
		if w := water(n, list...); x.want == api.OK {
			w.expect(t, none)
		} else {
			w.expectError(t, x.want)
		}
	}
}

// P22.2: each error of a plan, of each change; that of the first one counts.
func TestSafePlanErrors(t *testing.T) {
	n := ring()
	for _, x := range planSpoilers {
		for k := range 4 {
			w := water(n)
			for i := range 4 {
				w.changes = append(w.changes, at(3*i, fed(n, 5, 5, 0)))
			}
			x.spoil(&w.changes[k].Plan)
			w.expectError(t, x.want)
			for _, y := range planSpoilers {
				for i := k + 1; i < 4; i++ {
					w.changes[i].Plan = fed(n, 5, 5, 0)
					y.spoil(&w.changes[i].Plan)
					w.expectError(t, x.want)
				}
			}
		}
	}
}

// solveSpoilers make the errors of steady.Solve behind those of the plan, in their order.
var solveSpoilers = []spoiler[work]{
	{api.ErrInvalid, func(w *work) { w.fills = w.fills[:2] }},
	{api.ErrInvalid, func(w *work) { w.fills = append(slices.Clone(w.fills), w.fills[0]) }},
	{api.ErrInvalid, func(w *work) { w.fills[0] = []api.Piece{{Volume: 1001}, {Batch: 1, Volume: -1}} }},
	{api.ErrFill, func(w *work) { w.fills[2] = nil }},
	{api.ErrFill, func(w *work) { w.fills[1] = []api.Piece{{Volume: 999}} }},
	{api.ErrLimit, func(w *work) { w.products = make([]api.Product, api.MaxProducts+1) }},
	{api.ErrInvalid, func(w *work) { w.products = []api.Product{{}} }},
	{api.ErrTwice, func(w *work) { w.products = append(slices.Clone(w.products), w.products[0]) }},
	{api.ErrUnknown, func(w *work) { w.products = nil }},
	{api.ErrUnknown, func(w *work) { w.batches = nil }},
	{api.ErrUnknown, func(w *work) { w.batches = []api.Batch{{Product: -1}} }},
	{api.ErrUnknown, func(w *work) { w.fills[2] = []api.Piece{{Batch: 1, Volume: 20}} }},
}

// P22.2: the errors of steady.Solve, also if nothing flows; they come behind those of all plans, and ahead of any fault.
func TestSafeSolveErrors(t *testing.T) {
	n := ring()
	flowing, still := fed(n, 5, 5, 0), fed(n, 0, 0, 0)
	for _, x := range solveSpoilers {
		for _, list := range [][]api.Change{
			{at(0, flowing)},
			{at(0, still)},
			{at(0, still), at(1, flowing)},
			{at(0, flowing), at(1, still), at(2, flowing)},
		} {
			w := water(n, list...)
			w.expect(t, none)
			x.spoil(&w)
			w.expectError(t, x.want)
			w.limited(0, 0).limited(1, 0).expectError(t, x.want)
			w.with(append(slices.Clone(list), at(9, fed(n, 5, 15, 10)))...).expectError(t, api.ErrCycle)
		}
	}
}

// P22.2: an error of a later change comes ahead of a fault of an earlier one.
func TestSafeErrorBeforeFault(t *testing.T) {
	n := ring()
	w := water(n, at(0, fed(n, 5, 5, 0)), at(5, fed(n, 9, 9, 0))).limited(0, 0)
	w.expect(t, above(0))
	w.with(append(slices.Clone(w.changes), at(6, api.Plan{}))...).expectError(t, api.ErrInvalid)
	w.with(append(slices.Clone(w.changes), at(5, fed(n, 1, 1, 0)))...).expectError(t, api.ErrOrder)
	w.with(slices.Repeat(w.changes, 21)...).expectError(t, api.ErrLimit)
}

// P22.2: every set of errors at once, of which the first one counts.
func TestSafeFirstError(t *testing.T) {
	spoilers := []spoiler[work]{
		{api.ErrLimit, func(w *work) { w.changes = slices.Repeat(w.changes, 14) }},
		{api.ErrOrder, func(w *work) { w.changes[len(w.changes)-1].Tick = 2 }},
		{api.ErrForm, func(w *work) { w.n.Nodes[1] = "B" }},
		{api.ErrBalance, func(w *work) { w.changes[0].Plan.Ports = []int{1, 0, 0} }},
		{api.ErrRange, func(w *work) { w.changes[1].Plan.Rates = []int{1001, 0, 0} }},
		{api.ErrCycle, func(w *work) { w.changes[2].Plan.Rates = []int{5, 15, 10} }},
		{api.ErrFill, func(w *work) { w.fills[2] = nil }},
		{api.ErrTwice, func(w *work) { w.products = append(w.products, w.products[0]) }},
		{api.ErrUnknown, func(w *work) { w.batches = nil }},
		{api.ErrPressure, func(w *work) { w.n.Vapour = 500001 }},
	}
	for set := range 1 << len(spoilers) {
		n := ring()
		w := water(n, at(0, fed(n, 5, 5, 0)), at(2, fed(n, 6, 6, 0)), at(3, fed(n, 5, 5, 0)))
		first := api.OK
		for i, x := range slices.Backward(spoilers) {
			if set>>i&1 == 1 {
				x.spoil(&w)
				first = x.want
			}
		}
		switch first {
		case api.OK:
			w.expect(t, none)
		case api.ErrPressure:
			w.expect(t, below(0))
		default:
			w.expectError(t, first)
		}
	}
}
