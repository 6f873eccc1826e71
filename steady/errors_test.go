package steady

import (
	"math"
	"slices"
	"strconv"
	"testing"

	"batchline/api"
)

// crossing is a plan with four segments, of which the last two do not flow, in a network of which all parts can be spoiled.
func crossing() work {
	n := build(4, []pipe{{0, 1, 400, 1}, {1, 2, 100, 1}, {2, 3, 10, 1}, {3, 2, 10, 1}}, 0, 2, 3)
	n.Ports[0].Pressure = 500000
	n.Stations = []api.Station{pump("p", 0, 1000, 0, 0)}
	w := water(n, api.Plan{Rates: []int{9, 9, 0, 0}, Ports: []int{9, -9, 0}, Pumps: []bool{true}})
	w.batches = []api.Batch{{Product: 0}, {Product: 1}}
	w.products = append(w.products, api.Product{Name: "oil", Density: 900, Friction: 1500})
	return w
}

// spoiled is crossing with something changed.
func spoiled(change func(w *work)) work {
	w := crossing()
	change(&w)
	return w
}

// P21.1, P21.3: the errors of flow.Check, among them those of networks.
func TestSolvePlan(t *testing.T) {
	if _, e := crossing().solve(); e != api.OK {
		t.Fatalf("the error %d", e)
	}
	work{}.expectError(t, api.ErrLimit)
	spoiled(func(w *work) { w.n.Segments[3].Points = nil }).expectError(t, api.ErrLimit)
	spoiled(func(w *work) { w.n.Stations[0].Name = "" }).expectError(t, api.ErrForm)
	spoiled(func(w *work) { w.n.Ports[2].Name = w.n.Ports[0].Name }).expectError(t, api.ErrTwice)
	spoiled(func(w *work) { w.n.Segments[2].To = 4 }).expectError(t, api.ErrUnknown)
	spoiled(func(w *work) { w.n.Ports[2].Node = -1 }).expectError(t, api.ErrUnknown)
	spoiled(func(w *work) { w.n.Vapour = -100001 }).expectError(t, api.ErrInvalid)
	spoiled(func(w *work) { w.n.Segments[0].Resist = 1001 }).expectError(t, api.ErrInvalid)
	for _, rates := range [][]int{nil, {9}, {9, 9, 0}, {9, 9, 0, 0, 0}} {
		spoiled(func(w *work) { w.p.Rates = rates }).expectError(t, api.ErrInvalid)
	}
	for _, ports := range [][]int{nil, {9, -9}, {9, -9, 0, 0}} {
		spoiled(func(w *work) { w.p.Ports = ports }).expectError(t, api.ErrInvalid)
	}
	for _, pumps := range [][]bool{nil, {}, {true, false}} {
		spoiled(func(w *work) { w.p.Pumps = pumps }).expectError(t, api.ErrInvalid)
	}
	for _, rate := range []int{11, -11, 1001, math.MaxInt, math.MinInt} {
		spoiled(func(w *work) { w.p.Rates[3] = rate }).expectError(t, api.ErrRange)
	}
	for _, rate := range []int{1001, -1001, math.MaxInt, math.MinInt} {
		spoiled(func(w *work) { w.p.Ports[2] = rate }).expectError(t, api.ErrRange)
	}
	spoiled(func(w *work) { w.p.Ports[2] = 1000 }).expectError(t, api.ErrBalance)
	spoiled(func(w *work) { w.p.Rates[1] = 8 }).expectError(t, api.ErrBalance)
	spoiled(func(w *work) { w.p.Rates[0], w.p.Rates[1] = -9, -9 }).expectError(t, api.ErrBalance)
	spoiled(func(w *work) { w.p.Rates[2], w.p.Rates[3] = 5, 5 }).expectError(t, api.ErrCycle)
}

// P21.1, P21.3: the errors of advance.Check, also for segments that do not flow.
func TestSolveFillErrors(t *testing.T) {
	spoiled(func(w *work) { w.fills = nil }).expectError(t, api.ErrInvalid)
	spoiled(func(w *work) { w.fills = w.fills[:3] }).expectError(t, api.ErrInvalid)
	spoiled(func(w *work) { w.fills = append(w.fills, []api.Piece{{Volume: 10}}) }).expectError(t, api.ErrInvalid)
	for i, s := range crossing().n.Segments {
		for _, fill := range [][]api.Piece{
			{{Volume: s.Capacity}, {Volume: 0}},
			{{Volume: s.Capacity + 1}, {Batch: 1, Volume: -1}},
			{{Volume: s.Capacity - 1}, {Volume: 1}},
			{{Batch: -1, Volume: s.Capacity}},
			{{Batch: api.MaxBatches, Volume: s.Capacity}},
			{{Volume: math.MinInt}},
			make([]api.Piece, api.MaxPieces+1),
		} {
			spoiled(func(w *work) { w.fills[i] = fill }).expectError(t, api.ErrInvalid)
		}
		for _, fill := range [][]api.Piece{nil, {}, {{Volume: s.Capacity - 1}}, {{Volume: s.Capacity + 1}}, {{Volume: 1}, {Batch: 1, Volume: s.Capacity}}} {
			spoiled(func(w *work) { w.fills[i] = fill }).expectError(t, api.ErrFill)
		}
	}
}

// P21.1, P21.3: the errors of product.Check, also for products that no batch has.
func TestSolveProducts(t *testing.T) {
	for _, x := range []struct {
		want    api.Errno
		product api.Product
	}{
		{api.ErrInvalid, api.Product{}},
		{api.ErrInvalid, api.Product{Name: "", Density: 800, Friction: 1000}},
		{api.ErrInvalid, api.Product{Name: "tar", Density: 1201, Friction: 1000}},
		{api.ErrInvalid, api.Product{Name: "tar", Density: 800, Friction: 0}},
		{api.ErrTwice, api.Product{Name: "water", Density: 800, Friction: 1000}},
	} {
		spoiled(func(w *work) { w.products = append(w.products, x.product) }).expectError(t, x.want)
	}
	for len := range 20 {
		w := spoiled(func(w *work) {
			for i := range len {
				w.products = append(w.products, api.Product{Name: "p-" + strconv.Itoa(i), Density: 800, Friction: 1000})
			}
		})
		if len+2 > api.MaxProducts {
			w.expectError(t, api.ErrLimit)
		} else if _, e := w.solve(); e != api.OK {
			t.Errorf("%d products have the error %d", len+2, e)
		}
	}
}

// P21.1, P21.3: each batch of a fill is there, also that of a segment that does not flow, and has a product. Others need none.
func TestSolveUnknown(t *testing.T) {
	for i, s := range crossing().n.Segments {
		for _, batch := range []int{0, 1} {
			w := crossing()
			w.batches = append(w.batches, api.Batch{Product: -1})
			w.fills[i] = []api.Piece{{Batch: batch, Volume: s.Capacity}}
			if _, e := w.solve(); e != api.OK {
				t.Errorf("%.999s has the error %d", text(w), e)
			}
		}
		for _, batch := range []int{2, 3, 999} {
			w := crossing()
			w.fills[i] = []api.Piece{{Batch: batch, Volume: s.Capacity}}
			w.expectError(t, api.ErrUnknown)
			w.fills[i] = []api.Piece{{Batch: 0, Volume: s.Capacity - 1}, {Batch: batch, Volume: 1}}
			w.expectError(t, api.ErrUnknown)
		}
		for _, product := range []int{-1, 2, math.MaxInt, math.MinInt} {
			w := crossing()
			w.batches[1].Product = product
			w.fills[i] = []api.Piece{{Batch: 1, Volume: 1}, {Batch: 0, Volume: s.Capacity - 1}}
			w.expectError(t, api.ErrUnknown)
		}
	}
	spoiled(func(w *work) { w.batches = nil }).expectError(t, api.ErrUnknown)
	spoiled(func(w *work) { w.products = nil }).expectError(t, api.ErrUnknown)
}

// P21.1, P21.3: every set of errors at once, of which the first one counts.
func TestSolveFirstError(t *testing.T) {
	faults := []struct {
		want  api.Errno
		spoil func(w *work)
	}{
		{api.ErrForm, func(w *work) { w.n.Nodes[1] = "B" }},
		{api.ErrInvalid, func(w *work) { w.p.Pumps = append(w.p.Pumps, true) }},
		{api.ErrRange, func(w *work) { w.p.Rates[0] = 401 }},
		{api.ErrBalance, func(w *work) { w.p.Ports[2] = 1 }},
		{api.ErrCycle, func(w *work) { w.p.Rates[2], w.p.Rates[3] = 4, 4 }},
		{api.ErrInvalid, func(w *work) { w.fills[1] = append(w.fills[1], api.Piece{}) }},
		{api.ErrFill, func(w *work) { w.fills[2][0].Volume-- }},
		{api.ErrLimit, func(w *work) { w.products = slices.Repeat(w.products[:1], api.MaxProducts+1) }},
		{api.ErrInvalid, func(w *work) { w.products = append(w.products, api.Product{}, api.Product{}) }},
		{api.ErrTwice, func(w *work) { w.products = append(w.products, w.products[0]) }},
		{api.ErrUnknown, func(w *work) { w.fills[3][0].Batch = 2 }},
		{api.ErrPressure, func(w *work) { w.n.Vapour = 600000 }},
	}
	for set := range 1 << len(faults) {
		w, first := crossing(), api.OK
		for i, f := range slices.Backward(faults) {
			if set>>i&1 == 1 {
				f.spoil(&w)
				first = f.want
			}
		}
		switch first {
		case api.OK:
			w.expectCheck(t, api.Fault{}, api.OK)
		case api.ErrPressure:
			w.expectCheck(t, api.Fault{Kind: api.FaultLow}, api.ErrPressure)
		default:
			w.expectError(t, first)
		}
	}
}
