package gradient

import (
	"slices"
	"testing"

	"batchline/api"
)

// guarded is list with one of what lies around it on each side, and both with what was there, and a check that nothing of it has changed.
func guarded[T comparable](t *testing.T, list []T, around T) ([]T, func()) {
	t.Helper()
	all := slices.Concat([]T{around}, list, []T{around, around})
	before := slices.Clone(all)
	return all[1 : 1+len(list)], func() {
		t.Helper()
		if !slices.Equal(all, before) {
			t.Errorf("%v became %v", before, all)
		}
	}
}

// R2: arguments are left as they are, with what lies around them.
func TestArguments(t *testing.T) {
	for _, rate := range []int{30, -30, 0} {
		w := work{
			segment(4, points(0, 100, 40, 120, 100, 90)), pieces(1, 10, 0, 80, 1, 10),
			batchesOf(0, 1), productsOf(1000, 1000, 500, 500), rate, api.Bounds{Low: 300000, High: 400000},
		}
		var checks [5]func()
		w.s.Points, checks[0] = guarded(t, w.s.Points, api.Point{At: 77, Height: 77, Limit: 77})
		w.f, checks[1] = guarded(t, w.f, api.Piece{Batch: 77, Volume: 77})
		w.batches, checks[2] = guarded(t, w.batches, api.Batch{Product: 77})
		w.products, checks[3] = guarded(t, w.products, api.Product{Name: "around"})
		l, check := guarded(t, exact(0, 5, 50, 6, 100, 999999), api.Level{At: 77})
		checks[4] = check
		w.along()
		Breaks(w.s, w.f)
		Keeps(w.s, l, 0)
		for _, check := range checks {
			check()
		}
	}
}

// R2, R3: results are new memory, and the same for the same arguments.
func TestResults(t *testing.T) {
	for _, rate := range []int{30, -30} {
		w := example()
		w.rate = rate
		kept, _ := w.along()
		want := slices.Clone(kept)
		first, _ := w.along()
		first = first[:cap(first)]
		for i := range first {
			first[i] = api.Level{At: 66}
		}
		w.expect(t, want, api.OK)
		places, _ := Breaks(w.s, w.f)
		places = places[:cap(places)]
		for i := range places {
			places[i] = 66
		}
		expectBreaks(t, w.s, w.f, []int{0, 100}, api.OK)
		if !slices.Equal(kept, want) {
			t.Errorf("%v became %v", want, kept)
		}
	}
}
