package deal

import (
	"math/big"
	"math/rand"
	"slices"
	"testing"

	"batchline/api"
)

// receivers are those to which the litres go, one after the other, all of them: the fractions are compared as fractions.
func receivers(rates []int) []int {
	var all []int
	received := make([]int, len(rates))
	for {
		next, least := -1, new(big.Rat)
		for i, rate := range rates {
			if rate == 0 || received[i] == rate {
				continue // with all that it gets, the others are ahead until the end
			}
			fraction := big.NewRat(int64(received[i]+1), int64(rate))
			if next < 0 || fraction.Cmp(least) < 0 {
				next, least = i, fraction
			}
		}
		if next < 0 {
			return all
		}
		received[next]++
		all = append(all, next)
	}
}

// turn is when one gets a litre: the fraction of number and rate.
type turn struct{ of, number, rate int }

// compare orders turns by their fractions, and equal ones by their indices.
func compare(a, b turn) int {
	if by := a.number*b.rate - b.number*a.rate; by != 0 {
		return by
	}
	return a.of - b.of
}

// sortedReceivers are the receivers for many litres: all turns of all, sorted.
func sortedReceivers(rates []int) []int {
	var turns []turn
	for i, rate := range rates {
		for k := range rate {
			turns = append(turns, turn{i, k + 1, rate})
		}
	}
	slices.SortFunc(turns, compare)
	var all []int
	for _, x := range turns {
		all = append(all, x.of)
	}
	return all
}

// expectAllCounts checks Counts for the first litres, for each number of them, by those to which they go.
func expectAllCounts(t *testing.T, rates, to []int) {
	t.Helper()
	counts := make([]int, len(rates))
	for litres := range to {
		expectCounts(t, rates, litres, counts, api.OK)
		counts[to[litres]]++
	}
	expectCounts(t, rates, len(to), rates, api.OK)
	expectCounts(t, rates, len(to)+1, nil, api.ErrRange)
}

// lists are all lists of so many numbers from 0 on, each less than end.
func lists(count, end int) [][]int {
	if count == 0 {
		return [][]int{nil}
	}
	var all [][]int
	for _, list := range lists(count-1, end) {
		for n := range end {
			all = append(all, append(slices.Clone(list), n))
		}
	}
	return all
}

// P17.1: all small rates.
func TestCountsSmall(t *testing.T) {
	for count := range 5 {
		for _, rates := range lists(count, 7-count) {
			if to := receivers(rates); len(to) > 0 {
				expectAllCounts(t, rates, to)
			} else {
				expectCounts(t, rates, 0, nil, api.ErrInvalid)
			}
		}
	}
}

// anyRates are so many rates up to most, some of them 0, but not all.
func anyRates(r *rand.Rand, count, most int) []int {
	rates := make([]int, count)
	for i := range rates {
		if r.Intn(4) > 0 {
			rates[i] = r.Intn(most + 1)
		}
	}
	rates[r.Intn(count)] = 1 + r.Intn(most)
	return rates
}

// P17.1: any rates, by both ways to find those to which litres go.
func TestCountsAny(t *testing.T) {
	r := rand.New(rand.NewSource(1))
	for range 100 {
		rates := anyRates(r, 1+r.Intn(8), 20)
		to := receivers(rates)
		if other := sortedReceivers(rates); !slices.Equal(to, other) {
			t.Fatalf("of the rates %v the litres go to %v, or to %v", rates, to, other)
		}
		expectAllCounts(t, rates, to)
	}
}

// countsOf are the counts of those to which litres go.
func countsOf(count int, to []int) []int {
	counts := make([]int, count)
	for _, i := range to {
		counts[i]++
	}
	return counts
}

// P17.1: many rates, and great ones.
func TestCountsLarge(t *testing.T) {
	r := rand.New(rand.NewSource(2))
	for i := range 60 {
		rates := anyRates(r, []int{2, 64, 1 + r.Intn(64)}[i%3], api.MaxRate)
		to := sortedReceivers(rates)
		for range 5 {
			litres := r.Intn(len(to) + 1)
			expectCounts(t, rates, litres, countsOf(len(rates), to[:litres]), api.OK)
		}
		expectCounts(t, rates, len(to), rates, api.OK)
	}
}

// P17.1: each one has at least its part, rounded down, and one of two at most that, rounded up; nobody gives back.
func TestCountsParts(t *testing.T) {
	r := rand.New(rand.NewSource(3))
	for i := range 300 {
		rates := anyRates(r, []int{2, 3, 64}[i%3], []int{3, 30, 1000}[r.Intn(3)])
		all := 0
		for _, rate := range rates {
			all += rate
		}
		litres := r.Intn(all)
		counts, _ := Counts(rates, litres)
		more, _ := Counts(rates, litres+1)
		got, changed := 0, 0
		for k, rate := range rates {
			got += counts[k]
			part := litres * rate
			if counts[k] < part/all || len(rates) == 2 && counts[k] > (part+all-1)/all {
				t.Errorf("of %d litres, %d of the rates %v gets %d", litres, k, rates, counts[k])
			}
			if more[k] < counts[k] {
				t.Errorf("of %d litres of the rates %v, %d gives back one", litres+1, rates, k)
			}
			changed += more[k] - counts[k]
		}
		if got != litres || changed != 1 {
			t.Errorf("of %d litres of the rates %v, %d are dealt, and then %d", litres, rates, got, changed)
		}
	}
}

// dealt are the merged pieces that each one gets, litre by litre.
func dealt(in []api.Piece, rates []int) [][]api.Piece {
	to := sortedReceivers(rates)
	all := make([][]api.Piece, len(rates))
	k := 0
	for _, p := range in {
		for range p.Volume {
			list := all[to[k]]
			if len(list) == 0 || list[len(list)-1].Batch != p.Batch {
				list = append(list, api.Piece{Batch: p.Batch})
			}
			list[len(list)-1].Volume++
			all[to[k]] = list
			k++
		}
	}
	return all
}

// anyStream are pieces of at most litres litres, some of them empty, and neighbours with the same batch.
func anyStream(r *rand.Rand, most, litres int) []api.Piece {
	var in []api.Piece
	for range r.Intn(most) {
		volume := r.Intn(min(litres, 2*litres/most+2) + 1)
		in = append(in, api.Piece{Batch: 3 + r.Intn(3), Volume: volume})
		litres -= volume
	}
	if litres > 0 {
		in = append(in, api.Piece{Batch: 3, Volume: 1})
	}
	return in
}

// P17.2: all short lists of small pieces, dealt by all small rates.
func TestDealSmall(t *testing.T) {
	for count := range 4 {
		for _, numbers := range lists(count, 6) {
			var in []api.Piece
			litres := 0
			for _, n := range numbers {
				in = append(in, api.Piece{Batch: n % 2, Volume: n / 2})
				litres += n / 2
			}
			for _, rates := range lists(3, 4) {
				switch e := firstError(rates, litres); {
				case count > 0 && litres == 0:
					expectDeal(t, in, rates, nil, api.ErrInvalid)
				case e != api.OK:
					expectDeal(t, in, rates, nil, e)
				default:
					expectDeal(t, in, rates, dealt(in, rates), api.OK)
				}
			}
		}
	}
}

// volumes are the litres of each batch.
func volumes(list []api.Piece) [6]int {
	var all [6]int
	for _, p := range list {
		all[p.Batch] += p.Volume
	}
	return all
}

// P17.2: any lists, litre by litre; what is dealt adds up, batch by batch.
func TestDealAny(t *testing.T) {
	r := rand.New(rand.NewSource(4))
	for i := range 600 {
		rates := anyRates(r, 1+r.Intn([]int{4, 64}[i%2]), []int{5, 1000}[r.Intn(2)])
		in := anyStream(r, []int{8, 150}[r.Intn(2)], len(sortedReceivers(rates)))
		expectDeal(t, in, rates, dealt(in, rates), api.OK)

		lists, _ := Deal(in, rates)
		if got, want := volumes(slices.Concat(lists...)), volumes(in); got != want {
			t.Errorf("of %v, dealt by %v, there is in all %v, want %v", in, rates, got, want)
		}
	}
}

// P17.2: the greatest lists, and the greatest number of rates.
func TestDealLarge(t *testing.T) {
	for _, in := range [][]api.Piece{
		striped(200, 320),
		striped(200, 1),
		pieces(999, 64000),
		append(striped(199, 320), slices.Repeat(pieces(1, 1), 201)...),
	} {
		for _, rates := range [][]int{same(64, 1000), append(same(63, 1000), 999), append(same(63, 15), 0)} {
			if firstError(rates, volume(in)) == api.OK {
				expectDeal(t, in, rates, dealt(in, rates), api.OK)
			} else {
				expectDeal(t, in, rates, nil, api.ErrRange)
			}
		}
	}
	// Of a list with 400 elements, each one gets parts of all 200 pieces.
	expectDeal(t, slices.Repeat(pieces(1, 1, 1, 1, 2, 1, 2, 1), 100), []int{200, 200}, [][]api.Piece{
		slices.Repeat(pieces(1, 1, 2, 1), 100), slices.Repeat(pieces(1, 1, 2, 1), 100),
	}, api.OK)
}

// roomy is list with other elements around it in the same memory, and a function that tells whether all are as they were.
func roomy[T comparable](list []T, other T) ([]T, func() bool) {
	around := slices.Concat([]T{other}, list, []T{other, other})
	before := slices.Clone(around)
	return around[1 : 1+len(list)], func() bool { return slices.Equal(around, before) }
}

// expectOwn checks that no two lists of a result share memory, spare capacity included.
func expectOwn(t *testing.T, result [][]api.Piece) {
	t.Helper()
	for i, list := range result {
		var before [][]api.Piece
		for _, other := range result {
			before = append(before, slices.Clone(other))
		}
		for k, all := 0, list[:cap(list)]; k < len(all); k++ {
			all[k] = api.Piece{Batch: 66, Volume: 6}
		}
		for k, other := range result {
			if k != i && !slices.Equal(other, before[k]) {
				t.Errorf("when %v was overwritten, %v became %v", before[i], before[k], other)
			}
		}
	}
}

// R2: arguments are left as they are, with what lies around them, and results are new memory; with an error, too.
func TestMemory(t *testing.T) {
	for _, list := range [][]api.Piece{
		nil, pieces(5, 2, 6, 2), pieces(5, 1, 5, 1, 6, 0, 5, 2), pieces(5, 4), pieces(5, 40), pieces(5, 0), pieces(5, -1), striped(201, 1),
	} {
		for _, amounts := range [][]int{{3, 1}, {4}, {0, 4, 0}, {2, 2, 2}, {0}, nil, {-1}, {1001}, same(65, 1)} {
			in, sameIn := roomy(list, api.Piece{Batch: 77, Volume: 7})
			rates, sameRates := roomy(amounts, 777)
			lists, _ := Deal(in, rates)
			expectOwn(t, lists)
			if counts, _ := Counts(rates, 4); len(counts) > 0 {
				counts = counts[:cap(counts)]
				counts[0], counts[len(counts)-1] = -7, -7
			}
			if !sameIn() || !sameRates() {
				t.Errorf("the arguments %v and %v were modified", list, amounts)
			}
			again, _ := Counts(rates, 4)
			if len(again) > 0 && again[0] < 0 {
				t.Errorf("Counts returns memory that it has returned before")
			}
		}
	}
}
