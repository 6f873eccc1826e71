package boundary

import (
	"math"
	"slices"
	"testing"

	"batchline/api"
)

// pieces are those with these batches and volumes, in turn.
func pieces(numbers ...int) []api.Piece {
	var f []api.Piece
	for i := 0; i < len(numbers); i += 2 {
		f = append(f, api.Piece{Batch: numbers[i], Volume: numbers[i+1]})
	}
	return f
}

// boundaries are those at these places, with a left and a right batch, in turn.
func boundaries(numbers ...int) []api.Boundary {
	var list []api.Boundary
	for i := 0; i < len(numbers); i += 3 {
		list = append(list, api.Boundary{At: numbers[i], Left: numbers[i+1], Right: numbers[i+2]})
	}
	return list
}

// striped are so many pieces of a volume, of the batches 0 and 1 in turn.
func striped(count, volume int) []api.Piece {
	var f []api.Piece
	for i := range count {
		f = append(f, api.Piece{Batch: i % 2, Volume: volume})
	}
	return f
}

// invalidFills are not valid, each for one reason only.
func invalidFills() [][]api.Piece {
	all := [][]api.Piece{
		pieces(1, 60, 1, 40),
		pieces(3, 5, 1, 60, 2, 40, 2, 1),
		pieces(2, 500000, 1, 500001),
		pieces(2, 1000000, 1, 1),
		striped(201, 1),
		striped(100000, 1),
		pieces(1, math.MaxInt, 2, math.MaxInt, 1, 3),
		pieces(1, 100, 2, -50, 1, 100),
	}
	for _, batch := range []int{math.MinInt, -1, 1000, math.MaxInt} {
		all = append(all, pieces(batch, 5), pieces(batch, 5, 1, 5), pieces(1, 5, batch, 5, 1, 5), pieces(1, 5, batch, 5))
	}
	for _, volume := range []int{math.MinInt, -1, 0, 1000001, math.MaxInt} {
		all = append(all, pieces(1, volume), pieces(2, volume, 1, 5), pieces(1, 5, 2, volume, 3, 5), pieces(1, 5, 2, volume))
	}
	return all
}

// expectList checks a result of List.
func expectList(t *testing.T, f []api.Piece, want []api.Boundary, wantErr api.Errno) {
	t.Helper()
	if got, e := List(f); !slices.Equal(got, want) || e != wantErr {
		t.Errorf("List(%v) = %v, %d, want %v, %d", f, got, e, want, wantErr)
	}
}

// expectAhead checks a result of Ahead.
func expectAhead(t *testing.T, f []api.Piece, batch int, back bool, want int, wantErr api.Errno) {
	t.Helper()
	if got, e := Ahead(f, batch, back); got != want || e != wantErr {
		t.Errorf("Ahead(%v, %d, %v) = %d, %d, want %d, %d", f, batch, back, got, e, want, wantErr)
	}
}

// expectMixture checks a result of Mixture.
func expectMixture(t *testing.T, factor, travelled, want int, wantErr api.Errno) {
	t.Helper()
	if got, e := Mixture(factor, travelled); got != want || e != wantErr {
		t.Errorf("Mixture(%d, %d) = %d, %d, want %d, %d", factor, travelled, got, e, want, wantErr)
	}
}

// P15.1: the boundaries of the chapter's example, and of fills at the ends of what is valid.
func TestList(t *testing.T) {
	expectList(t, pieces(1, 60, 2, 40, 1, 5), boundaries(60, 1, 2, 100, 2, 1), api.OK)
	expectList(t, nil, nil, api.OK)
	expectList(t, []api.Piece{}, nil, api.OK)
	expectList(t, pieces(0, 1), nil, api.OK)
	expectList(t, pieces(999, 1000000), nil, api.OK)
	expectList(t, pieces(0, 1, 999, 1), boundaries(1, 0, 999), api.OK)
	expectList(t, pieces(999, 999999, 0, 1), boundaries(999999, 999, 0), api.OK)
	expectList(t, pieces(5, 1, 4, 999998, 5, 1), boundaries(1, 5, 4, 999999, 4, 5), api.OK)
	expectList(t, pieces(1, 7, 2, 7, 3, 7, 1, 7), boundaries(7, 1, 2, 14, 2, 3, 21, 3, 1), api.OK)
}

// P15.1: as many pieces as there may be.
func TestListFull(t *testing.T) {
	var want []api.Boundary
	for i := range 199 {
		want = append(want, api.Boundary{At: 5000 * (i + 1), Left: i % 2, Right: 1 - i%2})
	}
	expectList(t, striped(200, 5000), want, api.OK)
}

// P15.1: fills that are not valid.
func TestListInvalid(t *testing.T) {
	for _, f := range invalidFills() {
		expectList(t, f, nil, api.ErrInvalid)
	}
}

// P15.2: the examples of the chapter, and batches at either end, between others, and in several pieces.
func TestAhead(t *testing.T) {
	f := pieces(1, 60, 2, 40, 1, 5)
	expectAhead(t, f, 2, false, 5, api.OK)
	expectAhead(t, f, 1, false, 0, api.OK)
	expectAhead(t, f, 2, true, 60, api.OK)
	expectAhead(t, f, 1, true, 0, api.OK)

	f = pieces(3, 10, 0, 20, 999, 30, 0, 40, 7, 50)
	for batch, want := range map[int]int{3: 140, 0: 50, 999: 90, 7: 0} {
		expectAhead(t, f, batch, false, want, api.OK)
	}
	for batch, want := range map[int]int{3: 0, 0: 10, 999: 30, 7: 100} {
		expectAhead(t, f, batch, true, want, api.OK)
	}

	expectAhead(t, pieces(5, 1000000), 5, false, 0, api.OK)
	expectAhead(t, pieces(5, 1000000), 5, true, 0, api.OK)
	expectAhead(t, pieces(5, 1, 6, 999999), 5, false, 999999, api.OK)
	expectAhead(t, pieces(5, 999999, 6, 1), 6, true, 999999, api.OK)
	expectAhead(t, striped(200, 5000), 0, false, 5000, api.OK)
	expectAhead(t, striped(200, 5000), 1, true, 5000, api.OK)
}

// P15.2: batches that are not in a fill, among them those that can be in none.
func TestAheadUnknown(t *testing.T) {
	for _, f := range [][]api.Piece{nil, {}, pieces(1, 60, 2, 40, 1, 5), pieces(2, 1000000), striped(200, 1)} {
		for _, batch := range []int{math.MinInt, -2, -1, 3, 5, 40, 60, 999, 1000, 1001, math.MaxInt} {
			expectAhead(t, f, batch, false, 0, api.ErrUnknown)
			expectAhead(t, f, batch, true, 0, api.ErrUnknown)
		}
	}
}

// P15.2: a fill that is not valid is an error whether the batch is in it or not.
func TestAheadInvalid(t *testing.T) {
	for _, f := range invalidFills() {
		for _, batch := range []int{math.MinInt, -1, 0, 1, 2, 3, 77, 1000, math.MaxInt} {
			expectAhead(t, f, batch, false, 0, api.ErrInvalid)
			expectAhead(t, f, batch, true, 0, api.ErrInvalid)
		}
	}
}

// P15.3: the examples of the chapter, and the ends of both ranges.
func TestMixture(t *testing.T) {
	expectMixture(t, 4, 100, 20, api.OK)
	expectMixture(t, 4, 101, 21, api.OK)
	expectMixture(t, 0, 0, 0, api.OK)
	expectMixture(t, 0, 1<<40, 0, api.OK)
	expectMixture(t, 1000000, 0, 0, api.OK)
	expectMixture(t, 1, 1, 1, api.OK)
	expectMixture(t, 1, 2, 2, api.OK)
	expectMixture(t, 1, 1<<40, 1<<20, api.OK)
	expectMixture(t, 1, 1<<40-1, 1<<20, api.OK)
	expectMixture(t, 1000000, 1, 1000, api.OK)
	expectMixture(t, 999999, 1, 1000, api.OK)
	expectMixture(t, 1000000, 1<<40, 1000<<20, api.OK)
	expectMixture(t, 1000000, 1<<40-1, 1000<<20, api.OK)
	expectMixture(t, 999999, 1<<40, 1048575476, api.OK)
}

// P15.3: a mixture is the least number whose square is not less than the product.
func TestMixtureIsRoot(t *testing.T) {
	for _, factor := range []int{0, 1, 2, 3, 7, 1000, 65536, 999999, 1000000} {
		for _, travelled := range []int{0, 1, 2, 3, 4, 5, 99, 12345, 1 << 20, 1<<30 + 1, 1<<39 - 1, 1 << 39, 1<<40 - 1, 1 << 40} {
			m, e := Mixture(factor, travelled)
			square := factor * travelled
			if e != api.OK || m < 0 || m*m < square || m > 0 && (m-1)*(m-1) >= square {
				t.Errorf("Mixture(%d, %d) = %d, %d", factor, travelled, m, e)
			}
			if twice, e := Mixture(factor, 2*travelled); e == api.OK && (twice < m || twice > 2*m) {
				t.Errorf("Mixture(%d, %d) = %d, and %d for half the way", factor, 2*travelled, twice, m)
			}
		}
	}
}

// P15.3: numbers out of range, with others that are in range, out of it, or would make the product small.
func TestMixtureOutOfRange(t *testing.T) {
	badFactors := []int{math.MinInt, -1000000, -1, 1000001, 1 << 40, 1 << 62, math.MaxInt}
	badWays := []int{math.MinInt, -1 << 40, -1, 1<<40 + 1, 1 << 62, math.MaxInt}
	for _, factor := range badFactors {
		for _, travelled := range append(badWays, 0, 1, 4, 1<<40) {
			expectMixture(t, factor, travelled, 0, api.ErrRange)
		}
	}
	for _, travelled := range badWays {
		for _, factor := range []int{0, 1, 4, 1000000} {
			expectMixture(t, factor, travelled, 0, api.ErrRange)
		}
	}
}
