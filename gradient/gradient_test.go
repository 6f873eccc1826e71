package gradient

import (
	"math"
	"slices"
	"strconv"
	"testing"

	"batchline/api"
)

// pieces are those with these batches and volumes, in turn.
func pieces(numbers ...int) []api.Piece {
	var list []api.Piece
	for i := 0; i < len(numbers); i += 2 {
		list = append(list, api.Piece{Batch: numbers[i], Volume: numbers[i+1]})
	}
	return list
}

// striped are so many pieces of a volume, of the batches 0 and 1 in turn.
func striped(count, volume int) []api.Piece {
	var list []api.Piece
	for i := range count {
		list = append(list, api.Piece{Batch: i % 2, Volume: volume})
	}
	return list
}

// points are those with these places and heights, in turn.
func points(numbers ...int) []api.Point {
	var list []api.Point
	for i := 0; i < len(numbers); i += 2 {
		list = append(list, api.Point{At: numbers[i], Height: numbers[i+1], Limit: 900000})
	}
	return list
}

// segment is one with these points.
func segment(resist int, profile []api.Point) api.Segment {
	return api.Segment{Name: "pipe", From: 0, To: 1, Capacity: profile[len(profile)-1].At, Resist: resist, Points: profile}
}

// levels are those with these places, Lows and Highs, in turn.
func levels(numbers ...int) []api.Level {
	var list []api.Level
	for i := 0; i < len(numbers); i += 3 {
		list = append(list, api.Level{At: numbers[i], Bounds: api.Bounds{Low: numbers[i+1], High: numbers[i+2]}})
	}
	return list
}

// exact are levels with these places and pressures, in turn.
func exact(numbers ...int) []api.Level {
	var list []api.Level
	for i := 0; i < len(numbers); i += 2 {
		list = append(list, levels(numbers[i], numbers[i+1], numbers[i+1])...)
	}
	return list
}

// batchesOf are batches of these products.
func batchesOf(products ...int) []api.Batch {
	var list []api.Batch
	for _, p := range products {
		list = append(list, api.Batch{Product: p})
	}
	return list
}

// productsOf are products with these densities and frictions, in turn.
func productsOf(numbers ...int) []api.Product {
	var list []api.Product
	for i := 0; i < len(numbers); i += 2 {
		list = append(list, api.Product{Name: "liquid-" + strconv.Itoa(i), Density: numbers[i], Friction: numbers[i+1]})
	}
	return list
}

// work is what Along gets.
type work struct {
	s        api.Segment
	f        []api.Piece
	batches  []api.Batch
	products []api.Product
	rate     int
	in       api.Bounds
}

// along returns what Along does.
func (w work) along() ([]api.Level, api.Errno) {
	return Along(w.s, w.f, w.batches, w.products, w.rate, w.in)
}

// expect checks a result of Along.
func (w work) expect(t *testing.T, want []api.Level, wantErr api.Errno) {
	t.Helper()
	if got, e := w.along(); !slices.Equal(got, want) || e != wantErr {
		t.Errorf("Along of %+v = %v, %d, want %v, %d", w, got, e, want, wantErr)
	}
}

// expectBreaks checks a result of Breaks.
func expectBreaks(t *testing.T, s api.Segment, f []api.Piece, want []int, wantErr api.Errno) {
	t.Helper()
	if got, e := Breaks(s, f); !slices.Equal(got, want) || e != wantErr {
		t.Errorf("Breaks of %v in %+v = %v, %d, want %v, %d", f, s, got, e, want, wantErr)
	}
}

// example is that of the chapter.
func example() work {
	return work{
		segment(2, points(0, 0, 100, 10)), pieces(0, 100), batchesOf(0), productsOf(800, 1000),
		30, api.Bounds{Low: 500000, High: 500000},
	}
}

// P19.2: the example of the chapter.
func TestExample(t *testing.T) {
	w := example()
	w.expect(t, exact(0, 500000, 100, 419744), api.OK)
	w.rate = -30
	w.expect(t, exact(0, 576656, 100, 500000), api.OK)
}

// P19.1: the places of points and of boundaries, each once.
func TestBreaks(t *testing.T) {
	two := segment(0, points(0, 0, 100, 0))
	four := segment(0, points(0, 0, 30, 5, 31, -5, 100, 0))
	for _, x := range []struct {
		s    api.Segment
		f    []api.Piece
		want []int
	}{
		{two, pieces(5, 100), []int{0, 100}},
		{two, pieces(1, 60, 2, 40), []int{0, 60, 100}},
		{two, pieces(1, 1, 2, 98, 1, 1), []int{0, 1, 99, 100}},
		{four, pieces(5, 100), []int{0, 30, 31, 100}},
		{four, pieces(1, 60, 2, 40), []int{0, 30, 31, 60, 100}},
		{four, pieces(1, 30, 2, 70), []int{0, 30, 31, 100}},
		{four, pieces(1, 30, 2, 1, 3, 69), []int{0, 30, 31, 100}},
		{four, pieces(1, 29, 2, 1, 3, 69, 0, 1), []int{0, 29, 30, 31, 99, 100}},
		{four, pieces(999, 10, 0, 80, 999, 10), []int{0, 10, 30, 31, 90, 100}},
		{segment(0, points(0, 0, 1, 0)), pieces(7, 1), []int{0, 1}},
		{segment(0, points(0, 0, 1, 0, 2, 0)), pieces(7, 2), []int{0, 1, 2}},
		{segment(0, points(0, 0, 2, 0)), pieces(7, 1, 8, 1), []int{0, 1, 2}},
	} {
		expectBreaks(t, x.s, x.f, x.want, api.OK)
	}
}

// P19.1: as many pieces and points as there may be.
func TestBreaksMost(t *testing.T) {
	s := segment(0, points(0, 0, 1, 0, 3, 0, 5, 0, 7, 0, 9, 0, 397, 0, 400, 0))
	want := []int{0, 1}
	for at := 2; at < 400; at += 2 {
		want = append(want, at)
	}
	want = append(want, 3, 5, 7, 9, 397, 400)
	slices.Sort(want)
	expectBreaks(t, s, striped(200, 2), want, api.OK)
	expectBreaks(t, segment(0, points(0, 0, api.MaxCapacity, 0)), pieces(999, 1, 0, 999999), []int{0, 1, 1000000}, api.OK)
}

// P19.2: several products, points and pieces, in both directions.
func TestAlong(t *testing.T) {
	// In each part the friction is 4 F v / 100 and the lift is D 9.807 H v / w, for the product with D and F.
	w := work{
		segment(4, points(0, 100, 40, 120, 100, 90)), pieces(1, 10, 0, 80, 1, 10),
		batchesOf(0, 1), productsOf(1000, 1000, 500, 500),
		10, api.Bounds{Low: 300000, High: 400000},
	}
	// Frictions: 20, 120, 200, 20; lifts: 24517.5, 147105, -245175, -24517.5.
	w.expect(t, levels(
		0, 300000, 400000,
		10, 275462, 375463,
		40, 128237, 228238,
		90, 373212, 473213,
		100, 397709, 497711,
	), api.OK)
	// Backwards, the lifts have the other sign.
	w.rate = -10
	w.expect(t, levels(
		0, 201569, 301571,
		10, 177072, 277073,
		40, 30087, 130088,
		90, 275462, 375463,
		100, 300000, 400000,
	), api.OK)
}

// P19.2: friction and lift are rounded each for itself, and each for High and for Low.
func TestAlongRounding(t *testing.T) {
	for _, x := range []struct {
		resist, capacity, height, density, friction, rate int
		want                                              api.Bounds // behind {0, 0}
	}{
		{1, 1, 0, 400, 1, 1, api.Bounds{Low: -1, High: 0}},              // 0.001
		{1, 7, 0, 400, 999, 1, api.Bounds{Low: -1, High: 0}},            // 0.999
		{1, 7, 0, 400, 1000, 1, api.Bounds{Low: -1, High: -1}},          // 1
		{1, 7, 0, 400, 1001, -1, api.Bounds{Low: -2, High: -1}},         // 1.001
		{1, 7, 0, 400, 1999, 3, api.Bounds{Low: -18, High: -17}},        // 17.991
		{0, 3, 1, 401, 2000, 1000, api.Bounds{Low: -3933, High: -3932}}, // 3932.607
		{0, 3, -1, 401, 2000, 1000, api.Bounds{Low: 3932, High: 3933}},
		{0, 3, 1, 401, 2000, -1000, api.Bounds{Low: 3932, High: 3933}},
		{0, 3, -1, 401, 2000, -1000, api.Bounds{Low: -3933, High: -3932}},
		{1, 3, 1, 401, 500, 1, api.Bounds{Low: -3934, High: -3932}}, // and 0.5
		{1, 3, -1, 401, 500, 1, api.Bounds{Low: 3931, High: 3933}},
		{1, 3, -1, 401, 607, 1, api.Bounds{Low: 3931, High: 3933}}, // together 3932
		{0, 3, 5, 400, 1, 1, api.Bounds{Low: -19614, High: -19614}},
		{0, 3, 0, 1200, 2000, 1000, api.Bounds{}},
	} {
		w := work{
			segment(x.resist, points(0, 0, x.capacity, x.height)), pieces(0, x.capacity),
			batchesOf(0), productsOf(x.density, x.friction), x.rate, api.Bounds{},
		}
		want := []api.Level{{}, {At: x.capacity, Bounds: x.want}}
		if x.rate < 0 {
			want = []api.Level{{Bounds: x.want}, {At: x.capacity}}
		}
		w.expect(t, want, api.OK)
	}
}

// P19.2: each product counts where it lies, also if several batches are of it.
func TestAlongBatches(t *testing.T) {
	w := work{
		segment(1, points(0, 0, 10, 0)), pieces(7, 2, 3, 5, 0, 3),
		batchesOf(1, 99, 99, 0, 99, 99, 99, 1), productsOf(400, 1000, 1200, 2000),
		10, api.Bounds{Low: -7, High: 1000},
	}
	// Frictions: 2 * 20, 5 * 10, 3 * 20.
	w.expect(t, levels(0, -7, 1000, 2, -47, 960, 7, -97, 910, 10, -157, 850), api.OK)
	w.rate = -10
	w.expect(t, levels(0, -157, 850, 2, -117, 890, 7, -67, 940, 10, -7, 1000), api.OK)
}

// P19.2: the ends of all that is in a range.
func TestAlongEnds(t *testing.T) {
	const bound = 1 << 50
	w := work{
		segment(1000, points(0, -500, api.MaxCapacity, 5000)), pieces(0, api.MaxCapacity),
		batchesOf(0), productsOf(1200, 2000), 1000, api.Bounds{Low: -bound, High: bound},
	}
	const friction, lift = 2000000000, 64726200
	w.expect(t, levels(0, -bound, bound, 1000000, -bound-friction-lift, bound-friction-lift), api.OK)
	w.rate = -1000
	w.expect(t, levels(0, -bound-friction+lift, bound-friction+lift, 1000000, -bound, bound), api.OK)
	for _, in := range []api.Bounds{{Low: bound, High: bound}, {Low: -bound, High: -bound}} {
		w.in = in
		w.expect(t, exact(0, in.Low-friction+lift, 1000000, in.Low), api.OK)
	}
	w = work{segment(0, points(0, 5000, 1, -500)), pieces(999, 1), make([]api.Batch, 1000), productsOf(400, 1), 1, api.Bounds{}}
	w.expect(t, exact(0, 0, 1, 400*9807*55/10), api.OK)
	w.rate = -1
	w.expect(t, exact(0, -400*9807*55/10, 1, 0), api.OK)
}

// spoiled are segments that could not be of a valid network, but for this the one of w.
func spoiled(w work) []api.Segment {
	with := func(spoil func(s *api.Segment)) api.Segment {
		s := w.s
		s.Points = slices.Clone(s.Points)
		spoil(&s)
		return s
	}
	end := len(w.s.Points) - 1
	all := []api.Segment{{}}
	for _, name := range []string{"", "A", "7", "a b", "abcdefghijklm"} {
		all = append(all, with(func(s *api.Segment) { s.Name = name }))
	}
	for _, resist := range []int{-1, 1001, math.MaxInt, math.MinInt} {
		all = append(all, with(func(s *api.Segment) { s.Resist = resist }))
	}
	for _, wave := range []int{-1, 100001, math.MaxInt, math.MinInt} {
		all = append(all, with(func(s *api.Segment) { s.Wave = wave }))
	}
	for _, capacity := range []int{0, -1, 99, 101, api.MaxCapacity + 1, math.MaxInt, math.MinInt} {
		all = append(all, with(func(s *api.Segment) { s.Capacity = capacity }))
		all = append(all, with(func(s *api.Segment) { s.Points[end].At = capacity }))
	}
	for _, capacity := range []int{0, -1, api.MaxCapacity + 1} {
		all = append(all, with(func(s *api.Segment) { s.Capacity, s.Points[end].At = capacity, capacity }))
	}
	for _, height := range []int{-501, 5001, math.MaxInt, math.MinInt} {
		all = append(all, with(func(s *api.Segment) { s.Points[0].Height = height }))
		all = append(all, with(func(s *api.Segment) { s.Points[end].Height = height }))
	}
	for _, limit := range []int{-1, api.MaxPressure + 1, math.MaxInt, math.MinInt} {
		all = append(all, with(func(s *api.Segment) { s.Points[0].Limit = limit }))
		all = append(all, with(func(s *api.Segment) { s.Points[end].Limit = limit }))
	}
	for _, profile := range [][]api.Point{
		nil,
		points(0, 0),
		points(100, 0),
		points(1, 0, 100, 0),
		points(-1, 0, 100, 0),
		points(0, 0, 0, 0, 100, 0),
		points(0, 0, 100, 0, 100, 0),
		points(0, 0, 60, 0, 50, 0, 100, 0),
		points(0, 0, 200, 0, 100, 0),
		points(0, 0, 1, 0, 2, 0, 3, 0, 4, 0, 5, 0, 6, 0, 7, 0, 100, 0),
		make([]api.Point, 100000),
	} {
		all = append(all, with(func(s *api.Segment) { s.Points = profile }))
	}
	return all
}

// P19.1, P19.2, P19.3: the segment could be one of a valid network.
func TestSegment(t *testing.T) {
	for _, s := range spoiled(example()) {
		w := example()
		w.s = s
		w.expect(t, nil, api.ErrInvalid)
		expectBreaks(t, s, w.f, nil, api.ErrInvalid)
		expectBreaks(t, s, nil, nil, api.ErrInvalid)
		expectKeeps(t, s, exact(0, 500000, 100, 500000), 0, 0, api.ErrInvalid)
		expectKeeps(t, s, nil, 0, 0, api.ErrInvalid)
		expectKeeps(t, s, exact(-1, 500000, -1, 500000), 0, 0, api.ErrInvalid)
	}
}

// P19.1, P19.2, P19.3: the nodes of the segment, its Wave and its Limits make no difference here, and its name need only be one.
func TestSegmentOthers(t *testing.T) {
	for _, ends := range [][2]int{{0, 1}, {1, 0}, {0, 0}, {23, 5}, {-1, 7}, {math.MinInt, math.MaxInt}} {
		for _, name := range []string{"a", "from", "to", "abcdefghijkl"} {
			w := example()
			w.s.From, w.s.To, w.s.Name = ends[0], ends[1], name
			w.s.Wave = 100000
			w.expect(t, exact(0, 500000, 100, 419744), api.OK)
			w.rate = -30
			w.s.Points[0].Limit, w.s.Points[1].Limit = 0, 0
			w.expect(t, exact(0, 576656, 100, 500000), api.OK)
			expectBreaks(t, w.s, w.f, []int{0, 100}, api.OK)
			expectKeeps(t, w.s, exact(0, 0, 50, -5, 100, 1), -5, 100, api.ErrPressure)
		}
	}
}

// P19.1, P19.2: the fill is valid, and this is looked for ahead of its volume.
func TestFillInvalid(t *testing.T) {
	for _, f := range [][]api.Piece{
		pieces(0, 50, 0, 50),
		pieces(0, 100, 1, 0),
		pieces(0, 0),
		pieces(0, 101, 1, -1),
		pieces(-1, 100),
		pieces(1000, 100),
		pieces(0, api.MaxCapacity+1),
		pieces(0, api.MaxCapacity, 1, 1),
		pieces(0, math.MaxInt, 1, math.MaxInt, 0, 102),
		striped(201, 1),
		striped(100000, 1),
	} {
		w := example()
		w.f = f
		w.batches = batchesOf(0, 0)
		w.expect(t, nil, api.ErrInvalid)
		expectBreaks(t, w.s, f, nil, api.ErrInvalid)
	}
	w := example()
	w.s = segment(0, points(0, 0, 201, 0))
	expectBreaks(t, w.s, striped(201, 1), nil, api.ErrInvalid)
	if got, e := Breaks(w.s, append(striped(199, 1), pieces(0, 2)...)); len(got) != 0 || e != api.ErrInvalid {
		t.Errorf("Breaks of two neighbours of one batch = %v, %d", got, e)
	}
}

// P19.1, P19.2: the volume of the fill is the Capacity.
func TestFillVolume(t *testing.T) {
	for _, f := range [][]api.Piece{
		nil, {}, pieces(0, 1), pieces(0, 99), pieces(0, 101), pieces(0, api.MaxCapacity),
		pieces(0, 60, 1, 39), pieces(0, 60, 1, 41), striped(200, 1), striped(99, 1), striped(101, 1),
	} {
		w := example()
		w.f = f
		w.batches = batchesOf(0, 0)
		w.expect(t, nil, api.ErrFill)
		expectBreaks(t, w.s, f, nil, api.ErrFill)
	}
}

// P19.2: the errors of tables of products.
func TestAlongProducts(t *testing.T) {
	many := make([]int, 34)
	for i := range many {
		many[i] = 800
	}
	for _, x := range []struct {
		products []api.Product
		want     api.Errno
	}{
		{productsOf(many...), api.ErrLimit},
		{make([]api.Product, 100000), api.ErrLimit},
		{productsOf(800, 1000, 399, 1000), api.ErrInvalid},
		{productsOf(800, 1000, 1201, 1000), api.ErrInvalid},
		{productsOf(800, 0), api.ErrInvalid},
		{productsOf(800, 2001), api.ErrInvalid},
		{[]api.Product{{Name: "liquid-0", Density: 800, Expansion: 2001, Friction: 1000}}, api.ErrInvalid},
		{[]api.Product{{Name: "", Density: 800, Friction: 1000}}, api.ErrInvalid},
		{append(productsOf(800, 1000), productsOf(900, 1000)...), api.ErrTwice},
	} {
		w := example()
		w.products = x.products
		w.expect(t, nil, x.want)
	}
	w := example()
	w.products = productsOf(many[:32]...)
	w.batches = batchesOf(15)
	w.products[15] = api.Product{Name: "reference", Density: 800, Friction: 1000}
	w.expect(t, exact(0, 500000, 100, 419744), api.OK)
}

// P19.2: each batch of the fill is there, and so is its product; the other batches may be any.
func TestAlongUnknown(t *testing.T) {
	for _, x := range []struct {
		f       []api.Piece
		batches []api.Batch
	}{
		{pieces(0, 100), nil},
		{pieces(1, 100), batchesOf(0)},
		{pieces(0, 50, 1, 50), batchesOf(0)},
		{pieces(1, 50, 0, 50), batchesOf(0)},
		{pieces(999, 100), make([]api.Batch, 999)},
		{pieces(0, 100), batchesOf(-1)},
		{pieces(0, 100), batchesOf(2)},
		{pieces(0, 100), batchesOf(math.MinInt)},
		{pieces(0, 100), batchesOf(math.MaxInt)},
		{pieces(0, 50, 1, 50), batchesOf(0, 2, 1)},
		{pieces(1, 50, 0, 50), batchesOf(0, 2, 1)},
		{pieces(2, 25, 0, 25, 1, 25, 2, 25), batchesOf(0, -1, 1)},
	} {
		w := example()
		w.products = productsOf(800, 1000, 900, 1000)
		w.f, w.batches = x.f, x.batches
		w.expect(t, nil, api.ErrUnknown)
	}
	w := example()
	w.products = nil
	w.expect(t, nil, api.ErrUnknown)
	w = example()
	w.f[0].Batch, w.batches = 1, batchesOf(-1, 0, 1, math.MaxInt)
	w.expect(t, exact(0, 500000, 100, 419744), api.OK)
	w.batches = append(w.batches, make([]api.Batch, 2000)...)
	w.expect(t, exact(0, 500000, 100, 419744), api.OK)
}

// P19.2: rates, and the pressure at which the segment is entered.
func TestAlongRange(t *testing.T) {
	for _, rate := range []int{0, 1001, -1001, math.MaxInt, math.MinInt, math.MinInt + 1} {
		w := example()
		w.rate = rate
		w.expect(t, nil, api.ErrRange)
	}
	const bound = 1 << 50
	for _, in := range []api.Bounds{
		{Low: 1, High: 0},
		{Low: 500001, High: 500000},
		{Low: -1, High: -2},
		{Low: bound, High: bound + 1},
		{Low: bound + 1, High: bound + 1},
		{Low: -bound - 1, High: -bound},
		{Low: -bound - 1, High: -bound - 1},
		{Low: -bound - 1, High: bound},
		{Low: -bound, High: bound + 1},
		{Low: math.MinInt, High: math.MaxInt},
		{Low: math.MaxInt, High: math.MinInt},
		{Low: math.MaxInt, High: math.MaxInt},
		{Low: math.MinInt, High: math.MinInt},
	} {
		for _, rate := range []int{30, -30} {
			w := example()
			w.rate, w.in = rate, in
			w.expect(t, nil, api.ErrRange)
		}
	}
}

// P19.1, P19.2: every set of errors at once, of which the first one counts.
func TestErrorOrder(t *testing.T) {
	faults := []struct {
		e     api.Errno
		spoil func(w *work)
	}{
		{api.ErrInvalid, func(w *work) { w.s.Name = "" }},
		{api.ErrInvalid, func(w *work) { w.f = append(w.f, api.Piece{Batch: -1}) }},
		{api.ErrFill, func(w *work) { w.f[0].Volume++ }},
		{api.ErrTwice, func(w *work) { w.products[1].Name = w.products[0].Name }},
		{api.ErrUnknown, func(w *work) { w.batches[0].Product = 2 }},
		{api.ErrRange, func(w *work) { w.rate = 0 }},
		{api.ErrRange, func(w *work) { w.in.Low++ }},
	}
	for set := range 1 << len(faults) {
		w := example()
		w.products = productsOf(800, 1000, 900, 1000)
		want, wantBreaks := api.OK, api.OK
		for i, fault := range slices.Backward(faults) {
			if set>>i&1 == 0 {
				continue
			}
			fault.spoil(&w)
			want = fault.e
			if i < 3 {
				wantBreaks = fault.e
			}
		}
		if want != api.OK {
			w.expect(t, nil, want)
		}
		if wantBreaks != api.OK {
			expectBreaks(t, w.s, w.f, nil, wantBreaks)
		} else {
			expectBreaks(t, w.s, w.f, []int{0, 100}, api.OK)
		}
	}
}
