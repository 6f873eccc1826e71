package deal

import (
	"math"
	"slices"
	"testing"

	"batchline/api"
)

// pieces are those with these batches and volumes, in turn.
func pieces(numbers ...int) []api.Piece {
	var list []api.Piece
	for i := 0; i < len(numbers); i += 2 {
		list = append(list, api.Piece{Batch: numbers[i], Volume: numbers[i+1]})
	}
	return list
}

// striped are so many pieces of a volume, of the batches 0 and 1 in turn.
func striped(count, volume int) []api.Piece {
	var list []api.Piece
	for i := range count {
		list = append(list, api.Piece{Batch: i % 2, Volume: volume})
	}
	return list
}

// same are so many rates of this size.
func same(count, rate int) []int { return slices.Repeat([]int{rate}, count) }

// expectCounts checks a result of Counts.
func expectCounts(t *testing.T, rates []int, litres int, want []int, wantErr api.Errno) {
	t.Helper()
	if got, e := Counts(rates, litres); !slices.Equal(got, want) || e != wantErr {
		t.Errorf("Counts(%v, %d) = %v, %d, want %v, %d", rates, litres, got, e, want, wantErr)
	}
}

// areEqual reports whether two lists of lists of pieces are.
func areEqual(a, b [][]api.Piece) bool { return slices.EqualFunc(a, b, slices.Equal[[]api.Piece]) }

// expectDeal checks a result of Deal.
func expectDeal(t *testing.T, in []api.Piece, rates []int, want [][]api.Piece, wantErr api.Errno) {
	t.Helper()
	if got, e := Deal(in, rates); !areEqual(got, want) || e != wantErr {
		t.Errorf("Deal(%v, %v) = %v, %d, want %v, %d", in, rates, got, e, want, wantErr)
	}
}

// P17.1: how many litres each one has got after each of the first ones.
func TestCounts(t *testing.T) {
	for _, x := range []struct {
		rates []int
		want  [][]int
	}{
		{[]int{3, 1}, [][]int{{0, 0}, {1, 0}, {2, 0}, {3, 0}, {3, 1}}},
		{[]int{1, 3}, [][]int{{0, 0}, {0, 1}, {0, 2}, {1, 2}, {1, 3}}},
		{[]int{2, 2}, [][]int{{0, 0}, {1, 0}, {1, 1}, {2, 1}, {2, 2}}},
		{[]int{1}, [][]int{{0}, {1}}},
		{[]int{2}, [][]int{{0}, {1}, {2}}},
		{[]int{1, 1, 1}, [][]int{{0, 0, 0}, {1, 0, 0}, {1, 1, 0}, {1, 1, 1}}},
		{[]int{1, 2, 1}, [][]int{{0, 0, 0}, {0, 1, 0}, {1, 1, 0}, {1, 2, 0}, {1, 2, 1}}},
		{[]int{5, 2}, [][]int{{0, 0}, {1, 0}, {2, 0}, {2, 1}, {3, 1}, {4, 1}, {5, 1}, {5, 2}}},
		{[]int{2, 3}, [][]int{{0, 0}, {0, 1}, {1, 1}, {1, 2}, {2, 2}, {2, 3}}},
		{[]int{0, 2}, [][]int{{0, 0}, {0, 1}, {0, 2}}},
		{[]int{2, 0}, [][]int{{0, 0}, {1, 0}, {2, 0}}},
		{[]int{0, 0, 1, 0, 1, 0}, [][]int{{0, 0, 0, 0, 0, 0}, {0, 0, 1, 0, 0, 0}, {0, 0, 1, 0, 1, 0}}},
	} {
		for litres, want := range x.want {
			expectCounts(t, x.rates, litres, want, api.OK)
		}
		expectCounts(t, x.rates, len(x.want), nil, api.ErrRange)
		expectCounts(t, x.rates, -1, nil, api.ErrRange)
	}
}

// P17.1: the ends of what rates may be, how many of them there may be, and of litres.
func TestCountsEnds(t *testing.T) {
	expectCounts(t, []int{1000}, 1000, []int{1000}, api.OK)
	expectCounts(t, []int{1000, 0}, 999, []int{999, 0}, api.OK)
	expectCounts(t, []int{0, 1000, 1}, 1000, []int{0, 1000, 0}, api.OK)
	expectCounts(t, []int{1, 1000, 0}, 999, []int{0, 999, 0}, api.OK)
	expectCounts(t, []int{1, 1000, 0}, 1000, []int{1, 999, 0}, api.OK)
	expectCounts(t, same(64, 1000), 64000, same(64, 1000), api.OK)
	expectCounts(t, same(64, 1000), 63999, append(same(63, 1000), 999), api.OK)
	expectCounts(t, append(same(63, 0), 1), 1, append(same(63, 0), 1), api.OK)
	expectCounts(t, same(64, 1000), 64001, nil, api.ErrRange)
	expectCounts(t, same(65, 1), 1, nil, api.ErrLimit)
	expectCounts(t, same(100000, 1), 1, nil, api.ErrLimit)
	expectCounts(t, nil, 0, nil, api.ErrInvalid)
	expectCounts(t, []int{}, 0, nil, api.ErrInvalid)
	expectCounts(t, []int{0}, 0, nil, api.ErrInvalid)
	expectCounts(t, same(64, 0), 0, nil, api.ErrInvalid)
	for _, rate := range []int{math.MinInt, math.MinInt + 1, -1000, -1, 1001, math.MaxInt - 1, math.MaxInt} {
		expectCounts(t, []int{rate}, 0, nil, api.ErrRange)
		expectCounts(t, []int{0, rate}, 0, nil, api.ErrRange)
		expectCounts(t, []int{rate, 5}, 1, nil, api.ErrRange)
		expectCounts(t, []int{5, rate, 5}, 1, nil, api.ErrRange)
		expectCounts(t, append(same(63, 5), rate), 1, nil, api.ErrRange)
	}
	// Their sum is 2 after it has gone through all integers.
	expectCounts(t, []int{math.MaxInt, math.MaxInt, 4}, 1, nil, api.ErrRange)
	// Their sum is that of positive rates, or 0.
	expectCounts(t, []int{-1, 3}, 1, nil, api.ErrRange)
	expectCounts(t, []int{-3, 3}, 0, nil, api.ErrRange)
	for _, litres := range []int{math.MinInt, -1, 6, 7, 1000, math.MaxInt} {
		expectCounts(t, []int{3, 0, 2}, litres, nil, api.ErrRange)
	}
}

// P17.1: of several errors the first one of the list, for rates and litres with each set of the faults.
func TestCountsErrorOrder(t *testing.T) {
	for _, count := range []int{0, 1, 2, 64, 65, 200} {
		for _, base := range []int{0, 5} {
			for _, odd := range []int{base, -1, 1001} {
				for _, litres := range []int{math.MinInt, -1, 0, 1, 5*count + 1, math.MaxInt} {
					rates := same(count, base)
					if count > 0 {
						rates[count-1] = odd
					}
					want := firstError(rates, litres)
					if want != api.OK {
						expectCounts(t, rates, litres, nil, want)
					} else if _, e := Counts(rates, litres); e != api.OK {
						t.Errorf("Counts(%v, %d) has the error %d", rates, litres, e)
					}
				}
			}
		}
	}
}

// firstError is the one of Counts, by the words of the chapter.
func firstError(rates []int, litres int) api.Errno {
	all, greatest := 0, 0
	for _, rate := range rates {
		all += rate
		greatest = max(greatest, rate)
	}
	if len(rates) > api.MaxWeights {
		return api.ErrLimit
	}
	for _, rate := range rates {
		if rate < 0 || rate > api.MaxRate {
			return api.ErrRange
		}
	}
	if greatest == 0 {
		return api.ErrInvalid
	}
	if litres < 0 || litres > all {
		return api.ErrRange
	}
	return api.OK
}

// P17.2: what each one gets of some lists of pieces.
func TestDeal(t *testing.T) {
	for _, x := range []struct {
		in    []api.Piece
		rates []int
		want  [][]api.Piece
	}{
		{pieces(5, 2, 6, 2), []int{3, 1}, [][]api.Piece{pieces(5, 2, 6, 1), pieces(6, 1)}},
		{pieces(6, 2, 5, 2), []int{3, 1}, [][]api.Piece{pieces(6, 2, 5, 1), pieces(5, 1)}},
		{pieces(5, 2, 6, 2), []int{2, 2}, [][]api.Piece{pieces(5, 1, 6, 1), pieces(5, 1, 6, 1)}},
		{pieces(5, 2, 6, 2), []int{0, 2, 0, 2}, [][]api.Piece{nil, pieces(5, 1, 6, 1), nil, pieces(5, 1, 6, 1)}},
		{pieces(5, 2, 6, 1), []int{3, 1}, [][]api.Piece{pieces(5, 2, 6, 1), nil}},
		{pieces(5, 1, 6, 1, 5, 1, 6, 1), []int{2, 2}, [][]api.Piece{pieces(5, 2), pieces(6, 2)}},
		{pieces(5, 1, 6, 1, 5, 1, 6, 1), []int{4}, [][]api.Piece{pieces(5, 1, 6, 1, 5, 1, 6, 1)}},
		{pieces(0, 1000, 999, 1000), []int{1000, 1000}, [][]api.Piece{pieces(0, 500, 999, 500), pieces(0, 500, 999, 500)}},
		{nil, []int{3, 1}, [][]api.Piece{nil, nil}},
		{[]api.Piece{}, []int{0, 1}, [][]api.Piece{nil, nil}},
		// They are no fills, but they can be merged.
		{pieces(5, 1, 5, 1, 6, 2), []int{3, 1}, [][]api.Piece{pieces(5, 2, 6, 1), pieces(6, 1)}},
		{pieces(7, 0, 5, 1, 8, 0, 5, 1, 6, 2, 7, 0), []int{3, 1}, [][]api.Piece{pieces(5, 2, 6, 1), pieces(6, 1)}},
		{slices.Repeat(pieces(5, 1), 400), []int{300, 100}, [][]api.Piece{pieces(5, 300), pieces(5, 100)}},
	} {
		expectDeal(t, x.in, x.rates, x.want, api.OK)
	}
}

// P17.2: lists that cannot be merged, that have nothing, and that are too long.
func TestDealInvalid(t *testing.T) {
	for _, in := range [][]api.Piece{
		pieces(1, 0),
		pieces(0, 0),
		pieces(1, 0, 2, 0, 1, 0),
		slices.Repeat(pieces(7, 0), 400),
		pieces(1, -1),
		pieces(1, 5, 2, -1),
		pieces(1, 5, 2, -1, 1, 5),
		pieces(1, 1000001),
		pieces(1, 5, 1, 1000001),
		pieces(-1, 5),
		pieces(1000, 5),
		pieces(1, 5, 1000, 5),
		pieces(1, 5, -1, 0),
		pieces(math.MinInt, 5),
		pieces(math.MaxInt, 5),
		pieces(1, math.MinInt),
		pieces(1, math.MaxInt),
		// Their sum is 2 after it has gone through all integers.
		pieces(1, math.MaxInt, 2, math.MaxInt, 1, 4),
		striped(201, 1),
		striped(400, 1),
		striped(401, 1),
		slices.Repeat(pieces(7, 1), 401),
		striped(100000, 1),
	} {
		// Whatever the rates are: this error comes first.
		for _, rates := range [][]int{{1000, 1000}, {1}, {0, 0}, nil, {-1}, {5, 1001}, same(65, 5)} {
			expectDeal(t, in, rates, nil, api.ErrInvalid)
		}
	}
	half := append(striped(199, 1), pieces(1, 1, 0, 0, 1, 1, 1, 1)...)
	expectDeal(t, half, []int{202}, [][]api.Piece{append(striped(199, 1), pieces(1, 3)...)}, api.OK)
	expectDeal(t, striped(200, 1), []int{200}, [][]api.Piece{striped(200, 1)}, api.OK)
	expectDeal(t, append(striped(200, 1), pieces(0, 0)...), []int{200}, [][]api.Piece{striped(200, 1)}, api.OK)
}

// P17.2: the errors of Counts, with the volume of the list.
func TestDealCountsErrors(t *testing.T) {
	lists := [][]api.Piece{
		nil,
		pieces(1, 1),
		pieces(1, 5),
		pieces(1, 6),
		pieces(1, 3, 2, 0, 1, 3),
		pieces(1, 2, 2, 3),
		pieces(1, 2, 2, 4),
		pieces(1, 63999, 3, 1),
		pieces(1, 64000, 3, 1),
		pieces(1, 1000000),
		pieces(1, 1000000, 1, 1000000),
		striped(200, 320),
		striped(200, 321),
		striped(200, 1000000),
		slices.Repeat(pieces(7, 1000000), 400),
	}
	for _, in := range lists {
		litres := 0
		for _, p := range in {
			litres += p.Volume
		}
		for _, rates := range [][]int{
			{5}, {6}, {3, 2}, {3, 3}, {0, 5}, {1000}, same(64, 1000), same(65, 1000), same(65, -1), same(65, 0),
			{0}, nil, {0, 0, 0}, {-1}, {-1, 1000}, {1001}, {1000, 1001}, {math.MinInt}, {math.MaxInt}, {math.MaxInt, math.MaxInt, 4},
		} {
			_, want := Counts(rates, litres)
			if want != firstError(rates, litres) {
				t.Errorf("Counts(%v, %d) has the error %d", rates, litres, want)
			}
			if want != api.OK {
				expectDeal(t, in, rates, nil, want)
			} else if _, e := Deal(in, rates); e != api.OK {
				t.Errorf("Deal(%v, %v) has the error %d", in, rates, e)
			}
		}
	}
}
