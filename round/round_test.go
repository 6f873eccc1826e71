package round

import (
	"math"
	"math/big"
	"math/rand"
	"slices"
	"testing"

	"batchline/api"
)

// floorOf returns a / b, rounded down, by exact arithmetic, for a positive b.
func floorOf(a, b *big.Int) *big.Int {
	return new(big.Int).Div(a, b)
}

// expectDivision checks Down, Up and Half of a / b against exact arithmetic.
func expectDivision(t *testing.T, a, b int) {
	t.Helper()
	x, y := big.NewInt(int64(a)), big.NewInt(int64(b))
	down := floorOf(x, y).Int64()
	up := -floorOf(new(big.Int).Neg(x), y).Int64()
	twice := new(big.Int).Lsh(x, 1)
	half := floorOf(twice.Add(twice, y), new(big.Int).Lsh(y, 1)).Int64()
	if got := Down(a, b); int64(got) != down {
		t.Errorf("Down(%d, %d) = %d, want %d", a, b, got, down)
	}
	if got := Up(a, b); int64(got) != up {
		t.Errorf("Up(%d, %d) = %d, want %d", a, b, got, up)
	}
	if got := Half(a, b); int64(got) != half {
		t.Errorf("Half(%d, %d) = %d, want %d", a, b, got, half)
	}
}

// P1.1: the examples of the chapter, and exact halves on both sides of 0.
func TestDivisionExamples(t *testing.T) {
	for _, x := range []struct{ a, b, down, up, half int }{
		{-7, 2, -4, -3, -3},
		{7, 2, 3, 4, 4},
		{5, 3, 1, 2, 2},
		{1, 2, 0, 1, 1},
		{-1, 2, -1, 0, 0},
		{-3, 2, -2, -1, -1},
		{-5, 3, -2, -1, -2},
		{6, 3, 2, 2, 2},
		{-6, 3, -2, -2, -2},
		{0, 3, 0, 0, 0},
		{-1, 1 << 40, -1, 0, 0},
	} {
		if d, u, h := Down(x.a, x.b), Up(x.a, x.b), Half(x.a, x.b); d != x.down || u != x.up || h != x.half {
			t.Errorf("%d / %d: %d, %d, %d, want %d, %d, %d", x.a, x.b, d, u, h, x.down, x.up, x.half)
		}
	}
}

// P1.1: every small quotient, and those at the ends of the ranges.
func TestDivisionIsExact(t *testing.T) {
	for a := -60; a <= 60; a++ {
		for b := 1; b <= 20; b++ {
			expectDivision(t, a, b)
		}
	}
	for _, a := range []int{-1 << 61, -1<<61 + 1, -1 << 40, -1 << 39, -1, 0, 1, 1 << 39, 1 << 40, 1<<61 - 1, 1 << 61} {
		for _, b := range []int{1, 2, 3, 1<<40 - 1, 1 << 40} {
			expectDivision(t, a, b)
		}
	}
	r := rand.New(rand.NewSource(1))
	for range 20000 {
		a := (r.Intn(1<<62) - 1<<61) >> r.Intn(62)
		b := 1 + r.Intn(1<<40)>>r.Intn(40)
		expectDivision(t, a, b)
	}
}

// P1.1: numbers out of range give 0.
func TestDivisionOutOfRange(t *testing.T) {
	for _, x := range [][2]int{
		{5, 0}, {5, -1}, {-5, -5}, {5, 1<<40 + 1}, {0, 0},
		{1<<61 + 1, 1}, {-1<<61 - 1, 1}, {1<<61 + 1, 1 << 40}, {-1<<61 - 1, 1 << 40},
		{1 << 61, 1<<40 + 1}, {1 << 61, 0},
		{math.MinInt, -1}, {math.MinInt, 1}, {math.MaxInt, 1}, {math.MaxInt, math.MaxInt}, {math.MinInt, math.MinInt},
	} {
		if d, u, h := Down(x[0], x[1]), Up(x[0], x[1]), Half(x[0], x[1]); d != 0 || u != 0 || h != 0 {
			t.Errorf("%d / %d: %d, %d, %d, want 0, 0, 0", x[0], x[1], d, u, h)
		}
	}
}

// expectRoots checks the roots of n by their squares.
func expectRoots(t *testing.T, n int) {
	t.Helper()
	down, up := Root(n), RootUp(n)
	if down < 0 || down*down > n || down < maxRoot && (down+1)*(down+1) <= n {
		t.Errorf("Root(%d) = %d", n, down)
	}
	if up < 0 || up > maxRoot || up*up < n || up > 0 && (up-1)*(up-1) >= n {
		t.Errorf("RootUp(%d) = %d", n, up)
	}
}

// P1.2: the examples of the chapter, and the ends of the range.
func TestRootExamples(t *testing.T) {
	for _, x := range []struct{ n, down, up int }{
		{0, 0, 0}, {1, 1, 1}, {2, 1, 2}, {3, 1, 2}, {4, 2, 2}, {8, 2, 3}, {9, 3, 3},
		{1<<62 - 1, 1<<31 - 1, 1 << 31},
		{1 << 62, 1 << 31, 1 << 31},
	} {
		if down, up := Root(x.n), RootUp(x.n); down != x.down || up != x.up {
			t.Errorf("the roots of %d are %d and %d, want %d and %d", x.n, down, up, x.down, x.up)
		}
	}
}

// P1.2: every small number, and squares with their neighbours.
func TestRootsAreExact(t *testing.T) {
	for n := range 5000 {
		expectRoots(t, n)
	}
	r := rand.New(rand.NewSource(2))
	for range 20000 {
		root := 1 + r.Intn(1<<31-1)>>r.Intn(31)
		for _, n := range []int{root*root - 1, root * root, root*root + 1} {
			expectRoots(t, n)
		}
	}
	expectRoots(t, (1<<31-1)*(1<<31-1))
}

// P1.2: numbers out of range give 0.
func TestRootsOutOfRange(t *testing.T) {
	for _, n := range []int{-1, -4, math.MinInt, 1<<62 + 1, math.MaxInt} {
		if down, up := Root(n), RootUp(n); down != 0 || up != 0 {
			t.Errorf("the roots of %d are %d and %d, want 0 and 0", n, down, up)
		}
	}
}

// P1.3: the examples of the chapter, equal remainders, and the greatest totals and weights.
func TestSharesExamples(t *testing.T) {
	most := slices.Repeat([]int{1 << 20}, api.MaxWeights)
	for _, x := range []struct {
		total         int
		weights, want []int
	}{
		{10, []int{1, 1, 1}, []int{4, 3, 3}},
		{11, []int{1, 1, 1}, []int{4, 4, 3}},
		{5, []int{2, 0, 3, 3}, []int{1, 0, 2, 2}},
		{1, []int{1, 2, 2}, []int{0, 1, 0}},
		{2, []int{1, 5, 1, 5}, []int{0, 1, 0, 1}},
		{7, []int{5, 3, 1}, []int{4, 2, 1}},
		{3, []int{0, 0, 1, 1, 0}, []int{0, 0, 2, 1, 0}},
		{0, []int{3, 0}, []int{0, 0}},
		{api.MaxVolume, []int{1 << 20}, []int{api.MaxVolume}},
		{api.MaxVolume, []int{1<<20 - 1, 1 << 20, 0}, []int{1<<39 - 1<<18, 1<<39 + 1<<18, 0}},
		{api.MaxVolume, most, slices.Repeat([]int{1 << 34}, api.MaxWeights)},
	} {
		if got, e := Shares(x.total, x.weights); !slices.Equal(got, x.want) || e != api.OK {
			t.Errorf("Shares(%d, %v) = %v, %d, want %v", x.total, x.weights, got, e, x.want)
		}
	}
}

// sharesByHand divides total among weights, and looks for the greatest remainder anew for each litre that is left over.
func sharesByHand(total int, weights []int) []int {
	sum := big.NewInt(0)
	for _, w := range weights {
		sum.Add(sum, big.NewInt(int64(w)))
	}
	shares := make([]int, len(weights))
	rests := make([]*big.Int, len(weights))
	left := total
	for i, w := range weights {
		product := new(big.Int).Mul(big.NewInt(int64(total)), big.NewInt(int64(w)))
		share, rest := new(big.Int).DivMod(product, sum, new(big.Int))
		shares[i], rests[i] = int(share.Int64()), rest
		left -= shares[i]
	}
	for ; left > 0; left-- {
		best := 0
		for i := range rests {
			if rests[i].Cmp(rests[best]) > 0 {
				best = i
			}
		}
		shares[best]++
		rests[best] = big.NewInt(-1)
	}
	return shares
}

// P1.3: shares of many kinds, with their consequences.
func TestSharesByHand(t *testing.T) {
	r := rand.New(rand.NewSource(3))
	for range 5000 {
		weights := make([]int, 1+r.Intn(api.MaxWeights))
		scale := r.Intn(21)
		for i := range weights {
			weights[i] = r.Intn(1<<20+1) >> scale
		}
		weights[r.Intn(len(weights))]++
		total := r.Intn(api.MaxVolume+1) >> r.Intn(41)
		if slices.Max(weights) > maxWeight {
			continue
		}
		got, e := Shares(total, weights)
		if want := sharesByHand(total, weights); e != api.OK || !slices.Equal(got, want) {
			t.Fatalf("Shares(%d, %v) = %v, %d, want %v", total, weights, got, e, want)
		}
		sum := 0
		for i, share := range got {
			sum += share
			if weights[i] == 0 && share != 0 {
				t.Fatalf("Shares(%d, %v) gives something to a weight of 0: %v", total, weights, got)
			}
		}
		if sum != total {
			t.Fatalf("Shares(%d, %v) add up to %d", total, weights, sum)
		}
	}
}

// P1.3: the errors, each alone and each before those behind it.
func TestSharesErrors(t *testing.T) {
	many := slices.Repeat([]int{1}, api.MaxWeights+1)
	wrong := slices.Repeat([]int{-1}, api.MaxWeights+1)
	none := make([]int, api.MaxWeights+1)
	for _, x := range []struct {
		total   int
		weights []int
		want    api.Errno
	}{
		{5, many, api.ErrLimit},
		{-1, many, api.ErrLimit},
		{5, wrong, api.ErrLimit},
		{5, none, api.ErrLimit},
		{-1, []int{1}, api.ErrRange},
		{api.MaxVolume + 1, []int{1}, api.ErrRange},
		{math.MinInt, []int{1}, api.ErrRange},
		{math.MaxInt, nil, api.ErrRange},
		{-1, []int{0, 0}, api.ErrRange},
		{-1, nil, api.ErrRange},
		{5, []int{3, -1}, api.ErrRange},
		{5, []int{3, 1<<20 + 1}, api.ErrRange},
		{5, []int{0, -1}, api.ErrRange},
		{5, []int{1, -1}, api.ErrRange},
		{5, []int{math.MaxInt, math.MaxInt}, api.ErrRange},
		{0, []int{math.MinInt}, api.ErrRange},
		{5, []int{0}, api.ErrInvalid},
		{0, []int{0, 0}, api.ErrInvalid},
		{5, nil, api.ErrInvalid},
		{0, []int{}, api.ErrInvalid},
		{0, make([]int, api.MaxWeights), api.ErrInvalid},
	} {
		if got, e := Shares(x.total, x.weights); len(got) != 0 || e != x.want {
			t.Errorf("Shares(%d, %v) = %v, %d, want the error %d", x.total, x.weights, got, e, x.want)
		}
	}
}

// R2: Shares leaves its argument as it is, with its spare capacity, and returns new memory.
func TestSharesMemory(t *testing.T) {
	whole := []int{7, 1, 2, 4, 9, 9}
	before := slices.Clone(whole)
	weights := whole[1:4]
	first, _ := Shares(10, weights)
	second, _ := Shares(10, weights)
	if !slices.Equal(whole, before) {
		t.Errorf("the weights became %v", whole)
	}
	want := slices.Clone(second)
	first = first[:cap(first)]
	for i := range first {
		first[i] = -1
	}
	if !slices.Equal(whole, before) || !slices.Equal(second, want) {
		t.Errorf("a result shares memory: %v, %v", whole, second)
	}
}
