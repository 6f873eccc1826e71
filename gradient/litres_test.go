package gradient

import (
	"math/big"
	"math/rand"
	"slices"
	"testing"

	"batchline/api"
)

// breaksOf are the places at which a point is, or another batch begins, by going through all of them.
func breaksOf(s api.Segment, litres []int) []int {
	var all []int
	for at := 0; at <= s.Capacity; at++ {
		isPoint := slices.ContainsFunc(s.Points, func(p api.Point) bool { return p.At == at })
		if isPoint || litres[at] != litres[at-1] {
			all = append(all, at)
		}
	}
	return all
}

// litresOf are the batches of all litres of f.
func litresOf(f []api.Piece) []int {
	var all []int
	for _, p := range f {
		all = append(all, slices.Repeat([]int{p.Batch}, p.Volume)...)
	}
	return all
}

// times is the product of numbers.
func times(numbers ...int) *big.Int {
	all := big.NewInt(1)
	for _, n := range numbers {
		all.Mul(all, big.NewInt(int64(n)))
	}
	return all
}

// down is a / b, rounded down.
func down(a, b *big.Int) int {
	return int(new(big.Int).Div(a, b).Int64()) // for a positive b, Div rounds down
}

// up is a / b, rounded up.
func up(a, b *big.Int) int {
	return -down(new(big.Int).Neg(a), b)
}

// heightsOf are the heights at the ends of the section with the places from first to last, and the litres of this section.
func heightsOf(s api.Segment, first, last int) (int, int, int) {
	for i := 1; i < len(s.Points); i++ {
		if a, b := s.Points[i-1], s.Points[i]; a.At <= first && last <= b.At {
			return a.Height, b.Height, b.At - a.At
		}
	}
	panic("no section")
}

// behind are the bounds behind the part from the place from to the place to, which is the lesser one against the direction of the segment.
func (w work) behind(from, to int, b api.Bounds, litres []int) api.Bounds {
	first, last := min(from, to), max(from, to)
	p := w.products[w.batches[litres[first]].Product]
	start, end, width := heightsOf(w.s, first, last)
	if from > to {
		start, end = end, start
	}
	friction := times(w.s.Resist, p.Friction, w.rate, w.rate, last-first)
	frictionBy := times(1000, w.s.Capacity)
	lift := times(p.Density, 9807, end-start, last-first)
	liftBy := times(1000, width)
	return api.Bounds{
		Low:  b.Low - up(friction, frictionBy) - up(lift, liftBy),
		High: b.High - down(friction, frictionBy) - down(lift, liftBy),
	}
}

// levelsOf are the levels of w, from one break to the next one in the direction of flow.
func (w work) levelsOf() []api.Level {
	litres := litresOf(w.f)
	all := breaksOf(w.s, litres)
	result := make([]api.Level, len(all))
	i, next, b := 0, 1, w.in
	if w.rate < 0 {
		i, next = len(all)-1, -1
	}
	for {
		result[i] = api.Level{At: all[i], Bounds: b}
		if i+next < 0 || i+next >= len(all) {
			return result
		}
		b = w.behind(all[i], all[i+next], b, litres)
		i += next
	}
}

// between is any number from least to most, often one of the two.
func between(r *rand.Rand, least, most int) int {
	switch r.Intn(8) {
	case 0:
		return least
	case 1:
		return most
	}
	return least + r.Intn(most-least+1)
}

// anyPoints are points of a segment with this capacity.
func anyPoints(r *rand.Rand, capacity int) []api.Point {
	at := []int{0, capacity}
	for range r.Intn(api.MaxPoints - 1) {
		at = append(at, r.Intn(capacity+1))
	}
	slices.Sort(at)
	var list []api.Point
	for _, place := range slices.Compact(at) {
		list = append(list, api.Point{At: place, Height: between(r, -500, api.MaxHeight), Limit: between(r, 0, api.MaxPressure)})
	}
	return list
}

// anyFill is a valid fill with this volume, whose pieces mostly end at points or are of at most so many litres.
func anyFill(r *rand.Rand, profile []api.Point, batches, most int) []api.Piece {
	var f []api.Piece
	at, end := 0, profile[len(profile)-1].At
	for at < end {
		to := min(end, at+1+r.Intn(most))
		if i := r.Intn(len(profile)); profile[i].At > at && r.Intn(3) == 0 {
			to = profile[i].At
		}
		batch := r.Intn(batches)
		switch last := len(f) - 1; {
		case last >= 0 && f[last].Batch == batch:
			f[last].Volume += to - at
		case last+1 == api.MaxPieces:
			f[last].Volume += end - at
			to = end
		default:
			f = append(f, api.Piece{Batch: batch, Volume: to - at})
		}
		at = to
	}
	return f
}

// anyWork is a segment with a fill, and what flows in it.
func anyWork(r *rand.Rand) work {
	capacity := between(r, 1, []int{5, 60, 1000, 20000}[r.Intn(4)])
	w := work{rate: between(r, 1, api.MaxRate)}
	w.s = segment(between(r, 0, 1000), anyPoints(r, capacity))
	var numbers []int
	for range between(r, 1, api.MaxProducts) {
		numbers = append(numbers, between(r, 400, 1200), between(r, 1, 2000))
	}
	w.products = productsOf(numbers...)
	for range between(r, 1, 20) {
		w.batches = append(w.batches, api.Batch{Product: r.Intn(len(w.products)), Shipper: "a", From: -1, To: 99})
	}
	w.f = anyFill(r, w.s.Points, len(w.batches), []int{1, 3, 50, 20000}[r.Intn(4)])
	if r.Intn(2) == 0 {
		w.rate = -w.rate
	}
	w.in.Low = between(r, -1<<50, 1<<50)
	w.in.High = w.in.Low + r.Intn(1<<50-w.in.Low+1)
	return w
}

// P19.1, P19.2: breaks and levels, by going through all litres with numbers of any size.
func TestLitres(t *testing.T) {
	r := rand.New(rand.NewSource(19))
	for range 4000 {
		w := anyWork(r)
		expectBreaks(t, w.s, w.f, breaksOf(w.s, litresOf(w.f)), api.OK)
		w.expect(t, w.levelsOf(), api.OK)
	}
}

// P19.1, P19.2: all fills of a short segment, with all its profiles.
func TestAllFills(t *testing.T) {
	const capacity = 5
	w := work{batches: batchesOf(0, 1), products: productsOf(801, 999, 1199, 1501), in: api.Bounds{Low: -3, High: 8}}
	for set := range 1 << (capacity - 1) {
		w.s = segment(7, points(0, 3, capacity, -7))
		for at := 1; at < capacity; at++ {
			if set>>(at-1)&1 != 0 {
				w.s.Points = slices.Insert(w.s.Points, len(w.s.Points)-1, api.Point{At: at, Height: 11 * at % 7})
			}
		}
		for litres := range 1 << capacity {
			w.f = nil
			for at := range capacity {
				if batch := litres >> at & 1; at == 0 || batch != w.f[len(w.f)-1].Batch {
					w.f = append(w.f, api.Piece{Batch: batch})
				}
				w.f[len(w.f)-1].Volume++
			}
			expectBreaks(t, w.s, w.f, breaksOf(w.s, litresOf(w.f)), api.OK)
			for _, w.rate = range []int{-1000, -13, 17, 999} {
				w.expect(t, w.levelsOf(), api.OK)
			}
		}
	}
}

// P19.2: Low is never greater than High, whose difference grows by at most two Pa for each part; and what is added to both at the entry is added everywhere.
func TestAlongBounds(t *testing.T) {
	r := rand.New(rand.NewSource(20))
	for range 2000 {
		w := anyWork(r)
		w.in = api.Bounds{Low: -r.Intn(1000), High: r.Intn(1000)}
		list, _ := w.along()
		inFlow := slices.Clone(list)
		if w.rate < 0 {
			slices.Reverse(inFlow)
		}
		if inFlow[0].Bounds != w.in {
			t.Errorf("%+v is entered with %v", w, inFlow[0])
		}
		for i := 1; i < len(inFlow); i++ {
			grown := spread(inFlow[i]) - spread(inFlow[i-1])
			if spread(inFlow[i]) < 0 || grown < 0 || grown > 2 {
				t.Errorf("%+v has behind %v %v", w, inFlow[i-1], inFlow[i])
			}
		}
		more := r.Intn(1 << 40)
		w.in.Low, w.in.High = w.in.Low+more, w.in.High+more
		for i := range list {
			list[i].Bounds.Low += more
			list[i].Bounds.High += more
		}
		w.expect(t, list, api.OK)
	}
}

// spread is the difference of the bounds of l.
func spread(l api.Level) int { return l.Bounds.High - l.Bounds.Low }

// P19.2: a greater rate gives no higher pressure, and on level ground pressures fall by friction alone, by what the whole friction is.
func TestAlongRates(t *testing.T) {
	r := rand.New(rand.NewSource(21))
	for range 1000 {
		w := anyWork(r)
		slow, _ := w.along()
		if rate := w.rate; rate > 0 {
			w.rate += r.Intn(api.MaxRate - rate + 1)
		} else {
			w.rate -= r.Intn(api.MaxRate + rate + 1)
		}
		fast, _ := w.along()
		for i := range fast {
			if fast[i].Bounds.Low > slow[i].Bounds.Low || fast[i].Bounds.High > slow[i].Bounds.High {
				t.Errorf("%+v has %v, and with a lesser rate %v", w, fast[i], slow[i])
			}
		}
		w.expectFriction(t)
	}
}

// expectFriction checks the fall of pressures of w on level ground, with one product.
func (w work) expectFriction(t *testing.T) {
	t.Helper()
	for i := range w.s.Points {
		w.s.Points[i].Height = 77
	}
	for i := range w.batches {
		w.batches[i].Product = 0
	}
	list, _ := w.along()
	if w.rate < 0 {
		slices.Reverse(list)
	}
	for i := 1; i < len(list); i++ {
		if a, b := list[i-1].Bounds, list[i].Bounds; a.Low < b.Low || a.High < b.High {
			t.Errorf("%+v has behind %v %v", w, list[i-1], list[i])
		}
	}
	last, parts := list[len(list)-1].Bounds, len(list)-1
	whole := w.s.Resist * w.products[0].Friction * w.rate * w.rate
	if low := 1000 * (w.in.Low - last.Low); low < whole || low > whole+1000*parts {
		t.Errorf("Low of %+v falls by %d/1000, not %d/1000", w, low, whole)
	}
	if high := 1000 * (w.in.High - last.High); high > whole || high < whole-1000*parts {
		t.Errorf("High of %+v falls by %d/1000, not %d/1000", w, high, whole)
	}
}

// P19.3: the levels of Along, and others, by the limits of all places.
func TestKeepsAny(t *testing.T) {
	r := rand.New(rand.NewSource(22))
	for range 2000 {
		w := anyWork(r)
		w.in.Low = between(r, -1000000, api.MaxPressure)
		w.in.High = w.in.Low + r.Intn(100)
		list, _ := w.along()
		limits, vapour := greatest(w.s), between(r, -1000000, 1000000)
		if r.Intn(2) == 0 {
			for i := range list {
				list[i].Bounds.High = limits[list[i].At] - r.Intn(2)
				list[i].Bounds.Low = vapour + r.Intn(2)
			}
			i := r.Intn(len(list))
			list[i].Bounds.High += r.Intn(3)
			list[i].Bounds.Low -= r.Intn(3)
		}
		want, wantErr := -1, api.OK
		for _, l := range slices.Backward(list) {
			if l.Bounds.High > limits[l.At] || l.Bounds.Low < vapour {
				want, wantErr = l.At, api.ErrPressure
			}
		}
		expectKeeps(t, w.s, list, vapour, want, wantErr)
	}
}
