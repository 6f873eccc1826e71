package steady

import (
	"math"
	"slices"
	"testing"

	"batchline/api"
)

// levels are those with these places, Lows and Highs, in turn.
func levels(numbers ...int) []api.Level {
	var list []api.Level
	for i := 0; i < len(numbers); i += 3 {
		list = append(list, api.Level{At: numbers[i], Bounds: api.Bounds{Low: numbers[i+1], High: numbers[i+2]}})
	}
	return list
}

// points are those with these places and limits, in turn.
func points(numbers ...int) []api.Point {
	var list []api.Point
	for i := 0; i < len(numbers); i += 2 {
		list = append(list, api.Point{At: numbers[i], Limit: numbers[i+1]})
	}
	return list
}

// high, low and suction are faults.
func high(i, at int) api.Fault { return api.Fault{Kind: api.FaultHigh, Index: i, At: at} }
func low(i, at int) api.Fault  { return api.Fault{Kind: api.FaultLow, Index: i, At: at} }
func suction(i int) api.Fault  { return api.Fault{Kind: api.FaultSuction, Index: i} }

// none is no fault.
var none = api.Fault{}

// expect checks a result of Break; it is none if that is the zero fault.
func (h held) expect(t *testing.T, want api.Fault) {
	t.Helper()
	got, found := Break(h.network, h.pressures, h.plan, h.extra)
	if got != want || found != (want != none) {
		t.Errorf("Break of %.2999s = %v, %t, want %v", text(h), got, found, want)
	}
}

// kept is pressures that are just within their envelope everywhere.
func kept() held {
	n := build(4, []pipe{{0, 1, 100, 0}, {2, 1, 50, 0}, {2, 3, 10, 0}}, 0, 3)
	n.Segments[0].Points = points(0, 1000, 40, 800, 60, 900, 100, 700)
	n.Segments[1].Points = points(0, 600, 50, 500)
	n.Stations = []api.Station{pump("p", 1, 0, 0, 100), pump("q", 0, 0, 0, 200), pump("r", 3, 0, 0, 300)}
	n.Vapour = 50
	x := api.Pressures{
		Known: []bool{true, true, false, true},
		Nodes: []api.Bounds{{Low: 200, High: 9999}, {Low: 100, High: 100}, {Low: -5, High: -9}, {Low: 300, High: 0}},
		Segments: [][]api.Level{
			levels(0, 50, 800, 39, 50, 800, 40, 50, 800, 41, 60, 800, 60, 50, 700, 100, 90, 700),
			levels(0, 50, 500, 50, 50, 500),
			nil,
		},
	}
	return held{n, x, api.Plan{Pumps: []bool{true, true, true}}, []int{0, 0, 0}}
}

// P21.2: the ends of the envelope at each level and each station, alone.
func TestBreakEach(t *testing.T) {
	kept().expect(t, none)
	for i, list := range kept().pressures.Segments {
		for k, l := range list {
			h := kept()
			h.pressures.Segments[i][k].Bounds.High++
			h.expect(t, high(i, l.At))
			h = kept()
			h.pressures.Segments[i][k].Bounds.Low = 49
			h.expect(t, low(i, l.At))
			h.pressures.Segments[i][k].Bounds.High++
			h.expect(t, high(i, l.At))
		}
	}
	for i, s := range kept().network.Stations {
		h := kept()
		h.pressures.Nodes[s.Node].Low--
		h.expect(t, suction(i))
		h.plan.Pumps[i] = false
		h.expect(t, none)
		h.plan.Pumps[i] = true
		h.pressures.Known[s.Node] = false
		h.expect(t, none)
	}
}

// P21.2: the limit at a place is the lesser one of the points of its section, and at a point of both sections.
func TestBreakLimits(t *testing.T) {
	h := kept()
	for at := range 101 {
		limit := 700
		if at < 60 {
			limit = 800
		}
		h.pressures.Segments[0] = levels(at, 50, limit)
		h.expect(t, none)
		h.pressures.Segments[0] = levels(at, 50, limit+1)
		h.expect(t, high(0, at))
	}
	h.network.Segments[0].Points = points(0, 7, 1, 5, 2, 9, 3, 9, 4, 6, 5, 8, 99, 0, 100, api.MaxPressure)
	h.network.Vapour = -9
	for at, limit := range []int{5, 5, 5, 6, 6, 0, 0} {
		h.pressures.Segments[0] = levels(at, 0, limit)
		h.expect(t, none)
		h.pressures.Segments[0] = levels(at, 0, limit+1)
		h.expect(t, high(0, at))
	}
	h.network.Segments[0].Points = points(0, api.MaxPressure, 100, api.MaxPressure)
	h.pressures.Segments[0] = levels(100, 0, api.MaxPressure)
	h.expect(t, none)
	h.pressures.Segments[0] = levels(0, 0, api.MaxPressure, 100, 0, api.MaxPressure+1)
	h.expect(t, high(0, 100))
}

// P21.2: extra widens the bounds of the levels of its segment, on both sides, and no others; it does nothing to nodes.
func TestBreakExtra(t *testing.T) {
	h := kept()
	h.extra[2] = 1 << 50
	h.expect(t, none)
	h.extra[1] = 1
	h.expect(t, high(1, 0))
	h.network.Segments[1].Points = points(0, 501, 50, 501)
	h.expect(t, low(1, 0))
	h.network.Vapour = 49
	h.expect(t, none)
	h.extra[1] = 2
	h.expect(t, high(1, 0))
	h.extra[0] = 1
	h.expect(t, high(0, 0))
	h.extra[0], h.extra[1] = 0, 1<<50
	h.expect(t, high(1, 0))
	h.pressures.Segments[1] = levels(50, 0, -1<<51)
	h.expect(t, low(1, 50))
	h.pressures.Segments[1] = levels(50, 1<<51, -1<<51)
	h.expect(t, none)
	h.pressures.Segments[1] = levels(50, 1<<50+49, 501-1<<50)
	h.expect(t, none)
	h.pressures.Segments[1] = levels(50, 1<<50+48, 501-1<<50)
	h.expect(t, low(1, 50))
	h.pressures.Segments[1] = levels(50, 1<<50+49, 502-1<<50)
	h.expect(t, high(1, 50))
}

// P21.2: every set of faults at once, of which the first one counts: segment by segment, level by level, the high one first; then the stations.
func TestBreakFirst(t *testing.T) {
	faults := []struct {
		want  api.Fault
		spoil func(x api.Pressures)
	}{
		{high(0, 39), func(x api.Pressures) { x.Segments[0][1].Bounds.High = 801 }},
		{low(0, 39), func(x api.Pressures) { x.Segments[0][1].Bounds.Low = 49 }},
		{high(0, 60), func(x api.Pressures) { x.Segments[0][4].Bounds.High = 701 }},
		{low(0, 100), func(x api.Pressures) { x.Segments[0][5].Bounds.Low = -70000 }},
		{high(1, 0), func(x api.Pressures) { x.Segments[1][0].Bounds.High = 70000 }},
		{high(1, 50), func(x api.Pressures) { x.Segments[1][1].Bounds.High = 501 }},
		{low(1, 50), func(x api.Pressures) { x.Segments[1][1].Bounds.Low = 0 }},
		{suction(0), func(x api.Pressures) { x.Nodes[1].Low = 99 }},
		{suction(1), func(x api.Pressures) { x.Nodes[0].Low = -7 }},
		{suction(2), func(x api.Pressures) { x.Nodes[3].Low = 299 }},
	}
	for set := range 1 << len(faults) {
		h, first := kept(), none
		for i, f := range slices.Backward(faults) {
			if set>>i&1 == 1 {
				f.spoil(h.pressures)
				first = f.want
			}
		}
		h.expect(t, first)
	}
}

// P21.2: levels need not be those of Solve: in any order, several at one place, more than there can be, or of a segment without a rate.
func TestBreakAnyLevels(t *testing.T) {
	h := kept()
	h.pressures.Segments[0] = levels(70, 50, 700, 70, 900, -900, 5, 50, 801, 70, 49, 701, 0, 0, 9000)
	h.expect(t, high(0, 5))
	h.pressures.Segments[0] = levels(70, 50, 700, 70, 49, 700, 70, 50, 701)
	h.expect(t, low(0, 70))
	h.pressures.Segments[0] = slices.Repeat(levels(70, 50, 700), 5000)
	h.expect(t, none)
	h.pressures.Segments[0][4999].Bounds.Low--
	h.expect(t, low(0, 70))
	h = kept()
	h.pressures.Segments = [][]api.Level{{}, nil, levels(3, 0, 0)}
	h.expect(t, low(2, 3))
}

// P21.2: of the plan, only Pumps count.
func TestBreakPlan(t *testing.T) {
	for _, rates := range [][]int{nil, {1}, {math.MinInt, math.MaxInt, 7}, make([]int, 100)} {
		h := kept()
		h.plan.Rates, h.plan.Ports = rates, rates
		h.expect(t, none)
		h.pressures.Nodes[0].Low--
		h.expect(t, suction(1))
		h.pressures.Segments[1][0].Bounds.Low--
		h.expect(t, low(1, 0))
	}
}

// P21.2: what does not belong to the network, or is out of range, has no fault; the ends of ranges are still in them.
func TestBreakInvalid(t *testing.T) {
	broken := func() held {
		h := kept()
		h.pressures.Segments[0][0].Bounds.High++
		h.pressures.Nodes[0].Low--
		return h
	}
	broken().expect(t, high(0, 0))
	for _, spoil := range []func(h *held){
		func(h *held) { h.network = api.Network{} },
		func(h *held) { h.network.Nodes[3] = "" },
		func(h *held) { h.network.Ports[1].Name = "port-0" },
		func(h *held) { h.network.Segments[2].Resist = -1 },
		func(h *held) { h.network.Segments[2].To = 4 },
		func(h *held) { h.network.Segments[0].Points = nil },
		func(h *held) { h.network.Stations[2].Node = -1 },
		func(h *held) { h.network.Settle = 101 },
		func(h *held) { h.plan.Pumps = nil },
		func(h *held) { h.plan.Pumps = h.plan.Pumps[:2] },
		func(h *held) { h.plan.Pumps = append(h.plan.Pumps, true) },
		func(h *held) { h.pressures.Known = nil },
		func(h *held) { h.pressures.Known = h.pressures.Known[:3] },
		func(h *held) { h.pressures.Known = append(h.pressures.Known, true) },
		func(h *held) { h.pressures.Nodes = nil },
		func(h *held) { h.pressures.Nodes = h.pressures.Nodes[:3] },
		func(h *held) { h.pressures.Nodes = append(h.pressures.Nodes, api.Bounds{}) },
		func(h *held) { h.pressures.Segments = nil },
		func(h *held) { h.pressures.Segments = h.pressures.Segments[:2] },
		func(h *held) { h.pressures.Segments = append(h.pressures.Segments, nil) },
		func(h *held) { h.extra = nil },
		func(h *held) { h.extra = h.extra[:2] },
		func(h *held) { h.extra = append(h.extra, 0) },
		func(h *held) { h.extra, h.pressures.Segments = h.extra[:2], h.pressures.Segments[:2] },
		func(h *held) { h.pressures.Nodes, h.pressures.Known = h.pressures.Nodes[:3], h.pressures.Known[:3] },
	} {
		h := broken()
		spoil(&h)
		h.expect(t, none)
	}
	held{}.expect(t, none)
}

// P21.2: the ranges of extra, of bounds, and of places.
func TestBreakRanges(t *testing.T) {
	const extra, bound = 1 << 50, 1 << 60
	ranges := []struct {
		least, most int
		of          func(h *held) *int
	}{
		{0, extra, func(h *held) *int { return &h.extra[0] }},
		{0, extra, func(h *held) *int { return &h.extra[2] }},
		{-bound, bound, func(h *held) *int { return &h.pressures.Nodes[0].Low }},
		{-bound, bound, func(h *held) *int { return &h.pressures.Nodes[2].High }}, // of a node that is not known
		{-bound, bound, func(h *held) *int { return &h.pressures.Nodes[2].Low }},
		{-bound, bound, func(h *held) *int { return &h.pressures.Nodes[3].High }},
		{-bound, bound, func(h *held) *int { return &h.pressures.Segments[0][0].Bounds.Low }},
		{-bound, bound, func(h *held) *int { return &h.pressures.Segments[0][2].Bounds.High }},
		{-bound, bound, func(h *held) *int { return &h.pressures.Segments[1][1].Bounds.High }},
		{-bound, bound, func(h *held) *int { return &h.pressures.Segments[1][1].Bounds.Low }},
		{0, 100, func(h *held) *int { return &h.pressures.Segments[0][0].At }},
		{0, 100, func(h *held) *int { return &h.pressures.Segments[0][3].At }},
		{0, 50, func(h *held) *int { return &h.pressures.Segments[1][1].At }},
	}
	// At each end the first fault is another one, so it is enough that there is one: the station 2 has one anyway.
	faulty := func(set func(h *held)) bool {
		h := kept()
		h.pressures.Nodes[3].Low--
		set(&h)
		_, found := Break(h.network, h.pressures, h.plan, h.extra)
		return found
	}
	for i, r := range ranges {
		for _, v := range []int{r.least, r.least + 1, r.most - 1, r.most} {
			if !faulty(func(h *held) { *r.of(h) = v }) {
				t.Errorf("range %d: %d is not in it", i, v)
			}
		}
		for _, v := range []int{r.least - 1, r.most + 1, math.MinInt, math.MaxInt} {
			if faulty(func(h *held) { *r.of(h) = v }) {
				t.Errorf("range %d: %d is in it", i, v)
			}
		}
	}
}

// P21.2: the greatest numbers of all at once are added without an overflow.
func TestBreakEnds(t *testing.T) {
	const extra, bound = 1 << 50, 1 << 60
	h := kept()
	h.extra[1] = extra
	h.pressures.Segments[1] = levels(50, bound, bound)
	h.expect(t, high(1, 50))
	h.pressures.Segments[1] = levels(50, -bound, -bound)
	h.expect(t, low(1, 50))
	h.pressures.Segments[1] = levels(50, bound, -bound)
	h.expect(t, none)
	h.pressures.Nodes[1] = api.Bounds{Low: -bound, High: bound}
	h.expect(t, suction(0))
	h.pressures.Nodes[1] = api.Bounds{Low: bound, High: -bound}
	h.expect(t, none)
}
