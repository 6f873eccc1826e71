package piece

import (
	"math"
	"slices"
	"testing"

	"batchline/api"
)

// pieces are those with these batches and volumes, in turn.
func pieces(numbers ...int) []api.Piece {
	var f []api.Piece
	for i := 0; i < len(numbers); i += 2 {
		f = append(f, api.Piece{Batch: numbers[i], Volume: numbers[i+1]})
	}
	return f
}

// striped are so many pieces of a volume, of the batches 0 and 1 in turn.
func striped(count, volume int) []api.Piece {
	var f []api.Piece
	for i := range count {
		f = append(f, api.Piece{Batch: i % 2, Volume: volume})
	}
	return f
}

// validFills are valid, some of them at the ends of what is.
func validFills() [][]api.Piece {
	return [][]api.Piece{
		nil,
		{},
		pieces(0, 1),
		pieces(999, 1),
		pieces(0, 1000000),
		pieces(999, 1000000),
		pieces(1, 60, 2, 40),
		pieces(1, 60, 2, 40, 1, 60),
		pieces(1, 60, 2, 60),
		pieces(5, 999999, 4, 1),
		pieces(5, 1, 4, 999998, 5, 1),
		striped(200, 1),
		striped(200, 5000),
		append(striped(199, 5000), api.Piece{Batch: 1, Volume: 5000}),
	}
}

// invalidFills are not valid, each for one reason only.
func invalidFills() [][]api.Piece {
	all := [][]api.Piece{
		pieces(1, 60, 1, 40),
		pieces(1, 60, 1, 60),
		pieces(0, 1, 0, 1),
		pieces(3, 5, 1, 60, 2, 40, 2, 1),
		pieces(2, 500000, 1, 500001),
		pieces(2, 1000000, 1, 1),
		pieces(2, 1, 1, 1000000),
		striped(201, 1),
		striped(400, 1),
		striped(401, 1),
		striped(100000, 1),
		append(striped(199, 5000), api.Piece{Batch: 1, Volume: 5001}),
		// Their sum is 0, 1 or 2 after it has gone through all integers.
		pieces(1, math.MaxInt, 2, math.MaxInt, 1, 2),
		pieces(1, math.MaxInt, 2, math.MaxInt, 1, 3),
		pieces(1, math.MinInt, 2, math.MinInt, 1, 2),
		pieces(1, 100, 2, -50, 1, 100),
	}
	for _, batch := range []int{math.MinInt, -1, 1000, 1001, math.MaxInt} {
		all = append(all, pieces(batch, 1), pieces(batch, 5, 1, 5), pieces(1, 5, batch, 5), pieces(1, 5, batch, 5, 1, 5))
	}
	for _, volume := range []int{math.MinInt, -1, 0, 1000001, math.MaxInt} {
		all = append(all, pieces(1, volume), pieces(2, volume, 1, 5), pieces(1, 5, 2, volume), pieces(1, 5, 2, volume, 3, 5))
	}
	return all
}

// expectPush checks a result of Push.
func expectPush(t *testing.T, f, in []api.Piece, back bool, wantFill, wantOut []api.Piece, wantErr api.Errno) {
	t.Helper()
	fill, out, e := Push(f, in, back)
	if !slices.Equal(fill, wantFill) || !slices.Equal(out, wantOut) || e != wantErr {
		t.Errorf("Push of %v into %v, back %v = %v, %v, %d, want %v, %v, %d", in, f, back, fill, out, e, wantFill, wantOut, wantErr)
	}
}

// P14.1: which fills are valid.
func TestValid(t *testing.T) {
	for _, f := range validFills() {
		if !Valid(f) {
			t.Errorf("%v is not valid", f)
		}
	}
	for _, f := range invalidFills() {
		if Valid(f) {
			t.Errorf("%v is valid", f)
		}
	}
}

// P14.1: the volume of a fill.
func TestVolume(t *testing.T) {
	for _, f := range validFills() {
		want := 0
		for _, p := range f {
			want += p.Volume
		}
		if got := Volume(f); got != want {
			t.Errorf("the volume of %v = %d, want %d", f, got, want)
		}
	}
	if got := Volume(striped(200, 5000)); got != api.MaxCapacity {
		t.Errorf("the volume of 200 pieces = %d", got)
	}
	for _, f := range invalidFills() {
		if got := Volume(f); got != 0 {
			t.Errorf("the volume of %v = %d", f, got)
		}
	}
}

// P14.1: pieces without a volume go, and then neighbours of the same batch become one.
func TestMerge(t *testing.T) {
	for _, x := range []struct{ list, want []api.Piece }{
		{nil, nil},
		{[]api.Piece{}, nil},
		{pieces(1, 0), nil},
		{pieces(1, 0, 2, 0, 1, 0), nil},
		{pieces(1, 5), pieces(1, 5)},
		{pieces(0, 0, 0, 5), pieces(0, 5)},
		{pieces(0, 5, 0, 0), pieces(0, 5)},
		{pieces(1, 5, 1, 7), pieces(1, 12)},
		{pieces(1, 5, 1, 5, 1, 5), pieces(1, 15)},
		{pieces(1, 5, 2, 0, 1, 7), pieces(1, 12)},
		{pieces(1, 5, 2, 0, 3, 0, 1, 7, 2, 1), pieces(1, 12, 2, 1)},
		{pieces(1, 5, 2, 1, 1, 7), pieces(1, 5, 2, 1, 1, 7)},
		{pieces(0, 0, 1, 5, 1, 6, 2, 7, 2, 8, 0, 0, 1, 9), pieces(1, 11, 2, 15, 1, 9)},
		{pieces(999, 1000000, 0, 0, 999, 1000000), pieces(999, 2000000)},
		{pieces(0, 1000000, 999, 1000000, 0, 1), pieces(0, 1000000, 999, 1000000, 0, 1)},
		{striped(201, 1), striped(201, 1)},
		{striped(400, 1000000), striped(400, 1000000)},
		{slices.Repeat(pieces(7, 1000000), 400), pieces(7, 400000000)},
		{slices.Repeat(pieces(7, 0), 400), nil},
	} {
		if got := Merge(x.list); !slices.Equal(got, x.want) {
			t.Errorf("Merge(%v) = %v, want %v", x.list, got, x.want)
		}
	}
}

// P14.1: lists of which Merge makes nothing.
func TestMergeInvalid(t *testing.T) {
	all := [][]api.Piece{striped(401, 1), slices.Repeat(pieces(1, 0), 401), slices.Repeat(pieces(1, 1), 401), striped(100000, 1)}
	for _, batch := range []int{math.MinInt, -1, 1000, 1001, math.MaxInt} {
		all = append(all, pieces(batch, 5), pieces(batch, 0), pieces(1, 5, batch, 0, 1, 5), pieces(batch, 5, batch, 5), pieces(1, 5, batch, 5))
	}
	for _, volume := range []int{math.MinInt, -1, 1000001, math.MaxInt} {
		all = append(all, pieces(1, volume), pieces(1, 5, 1, volume), pieces(1, volume, 1, 5), pieces(1, 5, 2, volume, 1, 5))
	}
	for _, list := range all {
		if got := Merge(list); len(got) > 0 {
			t.Errorf("Merge(%v) = %v", list, got)
		}
	}
}

// P14.2: the pushes of the chapter's examples.
func TestPushExamples(t *testing.T) {
	f := pieces(1, 60, 2, 40)
	expectPush(t, f, pieces(3, 50), false, pieces(3, 50, 1, 50), pieces(1, 10, 2, 40), api.OK)
	expectPush(t, f, pieces(3, 50), true, pieces(1, 10, 2, 40, 3, 50), pieces(1, 50), api.OK)
	expectPush(t, f, pieces(1, 30), false, pieces(1, 90, 2, 10), pieces(2, 30), api.OK)
	expectPush(t, f, pieces(3, 120), false, pieces(3, 100), pieces(3, 20, 1, 60, 2, 40), api.OK)
}

// P14.2: pushes that end at a place between pieces or inside of one, merge at either end, or go all through.
func TestPush(t *testing.T) {
	f := pieces(1, 60, 2, 40)
	for _, x := range []struct {
		f, in     []api.Piece
		back      bool
		fill, out []api.Piece
	}{
		{nil, nil, false, nil, nil},
		{nil, nil, true, nil, nil},
		{f, nil, false, f, nil},
		{f, nil, true, f, nil},
		{nil, f, false, nil, f},
		{nil, f, true, nil, f},
		{f, pieces(3, 40), false, pieces(3, 40, 1, 60), pieces(2, 40)},
		{f, pieces(3, 60), true, pieces(2, 40, 3, 60), pieces(1, 60)},
		{f, pieces(3, 100), false, pieces(3, 100), f},
		{f, pieces(3, 100), true, pieces(3, 100), f},
		{f, pieces(3, 1), false, pieces(3, 1, 1, 60, 2, 39), pieces(2, 1)},
		{f, pieces(3, 1), true, pieces(1, 59, 2, 40, 3, 1), pieces(1, 1)},
		{f, pieces(2, 30), true, pieces(1, 30, 2, 70), pieces(1, 30)},
		{f, pieces(2, 30), false, pieces(2, 30, 1, 60, 2, 10), pieces(2, 30)},
		{f, pieces(2, 100), false, pieces(2, 100), f},
		{f, pieces(2, 101), false, pieces(2, 100), pieces(2, 1, 1, 60, 2, 40)},
		{f, pieces(1, 120), false, pieces(1, 100), pieces(1, 80, 2, 40)},
		{f, pieces(2, 120), true, pieces(2, 100), pieces(1, 60, 2, 60)},
		{f, pieces(3, 10, 4, 20), false, pieces(3, 10, 4, 20, 1, 60, 2, 10), pieces(2, 30)},
		{f, pieces(3, 10, 4, 20), true, pieces(1, 30, 2, 40, 3, 10, 4, 20), pieces(1, 30)},
		{f, pieces(3, 90, 4, 20), false, pieces(3, 90, 4, 10), pieces(4, 10, 1, 60, 2, 40)},
		{f, pieces(3, 20, 4, 90), true, pieces(3, 10, 4, 90), pieces(1, 60, 2, 40, 3, 10)},
		{pieces(0, 1), pieces(0, 1000000), false, pieces(0, 1), pieces(0, 1000000)},
		{pieces(0, 1000000), pieces(999, 1000000), true, pieces(999, 1000000), pieces(0, 1000000)},
	} {
		expectPush(t, x.f, x.in, x.back, x.fill, x.out, api.OK)
	}
}

// P14.2: either list that is not valid is an error, ahead of that of too many pieces.
func TestPushInvalid(t *testing.T) {
	full := striped(200, 5)
	for _, back := range []bool{false, true} {
		for _, bad := range invalidFills() {
			for _, f := range [][]api.Piece{nil, pieces(1, 60, 2, 40), full, bad} {
				expectPush(t, f, bad, back, nil, nil, api.ErrInvalid)
				expectPush(t, bad, f, back, nil, nil, api.ErrInvalid)
			}
		}
		expectPush(t, full, pieces(2, 1, 2, 1), back, nil, nil, api.ErrInvalid)
		expectPush(t, full, pieces(1000, 1), back, nil, nil, api.ErrInvalid)
	}
}

// P14.2: the new fill may have MaxPieces pieces, and no more.
func TestPushFillLimit(t *testing.T) {
	full := striped(200, 5)
	expectPush(t, full, pieces(2, 4), false, nil, nil, api.ErrLimit)
	expectPush(t, full, pieces(2, 4), true, nil, nil, api.ErrLimit)
	expectPush(t, full, pieces(1, 4), false, nil, nil, api.ErrLimit)
	expectPush(t, full, pieces(0, 4), true, nil, nil, api.ErrLimit)
	expectPush(t, full, pieces(2, 1, 3, 8), false, nil, nil, api.ErrLimit)
	expectPush(t, full, pieces(3, 8, 2, 1), true, nil, nil, api.ErrLimit)
	// What merges with the fill needs no piece of its own, nor does what takes the place of a piece that leaves.
	expectPush(t, full, pieces(0, 4), false, slices.Concat(pieces(0, 9), full[1:199], pieces(1, 1)), pieces(1, 4), api.OK)
	expectPush(t, full, pieces(1, 4), true, slices.Concat(pieces(0, 1), full[1:199], pieces(1, 9)), pieces(0, 4), api.OK)
	expectPush(t, full, pieces(2, 5), false, slices.Concat(pieces(2, 5), full[:199]), pieces(1, 5), api.OK)
	expectPush(t, full, pieces(2, 5), true, slices.Concat(full[1:], pieces(2, 5)), pieces(0, 5), api.OK)
	expectPush(t, full[:199], pieces(2, 4), false, slices.Concat(pieces(2, 4), full[:198], pieces(0, 1)), pieces(0, 4), api.OK)
	expectPush(t, full[:199], pieces(2, 4), true, slices.Concat(pieces(0, 1), full[1:199], pieces(2, 4)), pieces(0, 4), api.OK)
	expectPush(t, full, nil, false, full, nil, api.OK)
	expectPush(t, full, full, false, full, full, api.OK)
	expectPush(t, full, full, true, full, full, api.OK)
}

// P14.2: what leaves may have MaxPieces pieces, and no more.
func TestPushOutLimit(t *testing.T) {
	full := striped(200, 5)
	expectPush(t, pieces(2, 4), full, false, nil, nil, api.ErrLimit)
	expectPush(t, pieces(2, 4), full, true, nil, nil, api.ErrLimit)
	expectPush(t, pieces(0, 4), full, false, nil, nil, api.ErrLimit)
	expectPush(t, pieces(1, 4), full, true, nil, nil, api.ErrLimit)
	expectPush(t, pieces(3, 1, 2, 8), full, false, nil, nil, api.ErrLimit)
	expectPush(t, pieces(3, 8, 2, 1), full, true, nil, nil, api.ErrLimit)
	expectPush(t, pieces(1, 4), full, false, pieces(0, 4), slices.Concat(pieces(0, 1), full[1:199], pieces(1, 9)), api.OK)
	expectPush(t, pieces(0, 4), full, true, pieces(1, 4), slices.Concat(pieces(0, 9), full[1:199], pieces(1, 1)), api.OK)
	expectPush(t, pieces(2, 5), full, false, pieces(0, 5), slices.Concat(full[1:], pieces(2, 5)), api.OK)
	expectPush(t, pieces(2, 5), full, true, pieces(1, 5), slices.Concat(pieces(2, 5), full[:199]), api.OK)
	expectPush(t, nil, full, false, nil, full, api.OK)
	expectPush(t, nil, full, true, nil, full, api.OK)
}

// P14.3: the batch of a litre.
func TestAt(t *testing.T) {
	f := pieces(3, 2, 0, 1, 3, 1, 999, 3)
	for place, want := range []int{3, 3, 0, 3, 999, 999, 999, -1, -1} {
		if got := At(f, place); got != want {
			t.Errorf("At(%v, %d) = %d, want %d", f, place, got, want)
		}
	}
	for _, place := range []int{math.MinInt, -2, -1, 7, 1000000, math.MaxInt} {
		if got := At(f, place); got != -1 {
			t.Errorf("At(%v, %d) = %d", f, place, got)
		}
		if got := At(nil, place); got != -1 {
			t.Errorf("At(nil, %d) = %d", place, got)
		}
	}
	if got := At(nil, 0); got != -1 {
		t.Errorf("At(nil, 0) = %d", got)
	}
	whole := pieces(5, 1000000)
	for place, want := range map[int]int{0: 5, 999999: 5, 1000000: -1} {
		if got := At(whole, place); got != want {
			t.Errorf("At(%v, %d) = %d, want %d", whole, place, got, want)
		}
	}
	for _, f := range invalidFills() {
		for _, place := range []int{-1, 0, 1, 5, 199, 1000000, math.MaxInt} {
			if got := At(f, place); got != -1 {
				t.Errorf("At(%v, %d) = %d", f, place, got)
			}
		}
	}
}

// P14.3: the volume of a batch.
func TestBatch(t *testing.T) {
	f := pieces(3, 2, 0, 1, 3, 4, 999, 3)
	for batch, want := range map[int]int{
		0: 1, 3: 6, 999: 3,
		1: 0, 2: 0, 4: 0, 998: 0, 1000: 0, -1: 0, -3: 0, math.MinInt: 0, math.MaxInt: 0,
	} {
		if got := Batch(f, batch); got != want {
			t.Errorf("Batch(%v, %d) = %d, want %d", f, batch, got, want)
		}
		if got := Batch(nil, batch); got != 0 {
			t.Errorf("Batch(nil, %d) = %d", batch, got)
		}
	}
	if got := Batch(striped(200, 5000), 1); got != 500000 {
		t.Errorf("the second batch of two has %d litres", got)
	}
	for _, f := range invalidFills() {
		for _, batch := range []int{math.MinInt, -1, 0, 1, 2, 3, 1000, 1001, math.MaxInt} {
			if got := Batch(f, batch); got != 0 {
				t.Errorf("Batch(%v, %d) = %d", f, batch, got)
			}
		}
	}
}
