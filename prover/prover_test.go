package prover

import (
	"math"
	"math/big"
	"math/bits"
	"math/rand"
	"slices"
	"testing"

	"batchline/api"
	"batchline/meter"
)

const mostRun = 1 << 30

// example, exampleMeter and exampleRuns are those of the chapter's examples.
func example() api.Prover {
	return api.Prover{Volume: 1000, Tolerance: 500}
}

func exampleMeter() api.Meter {
	return api.Meter{Pulses: 2000, Bits: 16, Factor: 100100}
}

func exampleRuns() []int {
	return []int{1990, 2001, 2000, 2000, 2001, 2000}
}

// pulses is a meter with some pulses per 1000 litres.
func pulses(n int) api.Meter {
	return api.Meter{Pulses: n, Bits: 32, Factor: 100000}
}

// same is n equal runs.
func same(n, run int) []int {
	return slices.Repeat([]int{run}, n)
}

func expectValid(t *testing.T, p api.Prover, want bool) {
	t.Helper()
	if got := Valid(p); got != want {
		t.Errorf("Valid(%v) = %v", p, got)
	}
}

func expectRepeats(t *testing.T, p api.Prover, runs []int, want bool) {
	t.Helper()
	if got := Repeats(p, runs); got != want {
		t.Errorf("Repeats(%v, %v) = %v", p, runs, got)
	}
}

func expectProve(t *testing.T, p api.Prover, m api.Meter, runs []int, want, wantFirst int, wantE api.Errno) {
	t.Helper()
	if got, first, e := Prove(p, m, runs); got != want || first != wantFirst || e != wantE {
		t.Errorf("Prove(%v, %v, %v) = %d, %d, %d, want %d, %d, %d", p, m, runs, got, first, e, want, wantFirst, wantE)
	}
}

func expectProveError(t *testing.T, p api.Prover, m api.Meter, runs []int, want api.Errno) {
	t.Helper()
	expectProve(t, p, m, runs, 0, 0, want)
}

// badProvers are provers of which one number, or both, are not in their ranges.
func badProvers() []api.Prover {
	bad := []api.Prover{{}, {Volume: -1, Tolerance: -1}, {Volume: 100001, Tolerance: 10001}, {Volume: 0, Tolerance: 10001}}
	for _, n := range []int{math.MinInt, -1000, -1, 0, 100001, 1 << 40, math.MaxInt} {
		bad = append(bad, api.Prover{Volume: n, Tolerance: 500})
	}
	for _, n := range []int{math.MinInt, -500, -1, 10001, 1 << 40, math.MaxInt} {
		bad = append(bad, api.Prover{Volume: 1000, Tolerance: n})
	}
	return bad
}

// badMeters are meters that are not valid.
func badMeters() []api.Meter {
	return []api.Meter{
		{}, {Pulses: 0, Bits: 16, Factor: 100000}, {Pulses: 1<<20 + 1, Bits: 16, Factor: 100000}, {Pulses: -2000, Bits: 16, Factor: 100000},
		{Pulses: 2000, Bits: 0, Factor: 100000}, {Pulses: 2000, Bits: 17, Factor: 100000}, {Pulses: 2000, Bits: 64, Factor: 100000},
		{Pulses: 2000, Bits: 16, Factor: 49999}, {Pulses: 2000, Bits: 16, Factor: 200001}, {Pulses: 2000, Bits: 16, Factor: 0}, {Pulses: 2000, Bits: 16, Factor: -1},
		{Pulses: math.MaxInt, Bits: math.MaxInt, Factor: math.MaxInt}, {Pulses: math.MinInt, Bits: math.MinInt, Factor: math.MinInt},
	}
}

// noRuns are numbers that are no runs.
func noRuns() []int {
	return []int{math.MinInt, -mostRun, -2000, -1, 0, mostRun + 1, 1 << 40, math.MaxInt}
}

// replaced is runs with another number at an index.
func replaced(runs []int, i, n int) []int {
	runs = slices.Clone(runs)
	runs[i] = n
	return runs
}

// P8.1: the ends of both ranges, and what is beyond them.
func TestValid(t *testing.T) {
	for _, volume := range []int{1, 2, 1000, 99999, 100000} {
		for _, tolerance := range []int{0, 1, 500, 9999, 10000} {
			expectValid(t, api.Prover{Volume: volume, Tolerance: tolerance}, true)
		}
	}
	for _, p := range badProvers() {
		expectValid(t, p, false)
	}
}

// P8.1: runs that repeat, and runs that just do not: the tolerance is a part of the least one, wherever it stands.
func TestRepeatsExamples(t *testing.T) {
	for _, x := range []struct {
		tolerance int
		runs      []int
		want      bool
	}{
		{500, []int{1990, 2001, 2000, 2000, 2001}, false},
		{500, []int{2001, 2000, 2000, 2001, 2000}, true},
		{500, exampleRuns(), false},
		{500, []int{2000, 2001}, true},
		{500, []int{2001, 2000}, true},
		{500, []int{1999, 2000}, false},
		{500, []int{2000, 1999}, false},
		{500, []int{2000, 2002}, false},
		{500, []int{2000, 2001, 2002}, false},
		{500, []int{2001, 2000, 1999}, false},
		{500, []int{2001, 2001, 2000, 2001, 2001, 2001}, true},
		{499, []int{2000, 2001}, false},
		{501, []int{1999, 2000}, true},
		{0, []int{7, 7, 7}, true},
		{0, []int{7, 8}, false},
		{0, []int{mostRun, mostRun - 1}, false},
		{1, []int{1000000, 1000001}, true},
		{1, []int{999999, 1000000}, false},
		{10000, []int{100, 101}, true},
		{10000, []int{99, 100}, false},
		{10000, []int{1, 2}, false},
		{10000, []int{1, mostRun}, false},
		{10000, []int{mostRun, 1}, false},
		{10000, []int{1063110717, mostRun}, true},
		{10000, []int{mostRun, 1063110716}, false},
	} {
		expectRepeats(t, api.Prover{Volume: 1000, Tolerance: x.tolerance}, x.runs, x.want)
		expectRepeats(t, api.Prover{Volume: 1, Tolerance: x.tolerance}, x.runs, x.want)
		expectRepeats(t, api.Prover{Volume: 100000, Tolerance: x.tolerance}, x.runs, x.want)
	}
}

// P8.1: no runs, one, as many as there may be, and one more.
func TestRepeatsNumberOfRuns(t *testing.T) {
	expectRepeats(t, example(), nil, false)
	expectRepeats(t, example(), []int{}, false)
	expectRepeats(t, example(), make([]int, 0, 9), false)
	for n := 1; n <= 50; n++ {
		expectRepeats(t, example(), same(n, 2000), n <= 20)
		expectRepeats(t, example(), same(n, 1), n <= 20)
	}
}

// P8.1: numbers that are no runs, alone and at each place.
func TestRepeatsRange(t *testing.T) {
	widest := api.Prover{Volume: 1, Tolerance: 10000}
	for _, n := range noRuns() {
		expectRepeats(t, widest, []int{n}, false)
		expectRepeats(t, widest, same(3, n), false)
		for i := range 5 {
			expectRepeats(t, widest, replaced(same(5, 2000), i, n), false)
		}
	}
	expectRepeats(t, widest, []int{mostRun, mostRun + 1}, false)
	expectRepeats(t, widest, []int{1}, true)
	expectRepeats(t, widest, []int{mostRun, mostRun}, true)
}

// P8.1: without a valid prover, nothing repeats.
func TestRepeatsInvalid(t *testing.T) {
	for _, p := range badProvers() {
		for _, runs := range [][]int{nil, {1}, {2000}, same(5, 2000), same(20, mostRun), same(21, 2000), {0}, {1, 2}, {math.MaxInt, math.MinInt}} {
			expectRepeats(t, p, runs, false)
		}
	}
}

// repeatByDefinition tells by exact arithmetic whether runs, at least one, repeat.
func repeatByDefinition(p api.Prover, runs []int) bool {
	sorted := slices.Sorted(slices.Values(runs))
	least, greatest := sorted[0], sorted[len(sorted)-1]
	apart := new(big.Int).Mul(big.NewInt(int64(greatest-least)), big.NewInt(1000000))
	return apart.Cmp(new(big.Int).Mul(big.NewInt(int64(p.Tolerance)), big.NewInt(int64(least)))) <= 0
}

// anyProver is a valid prover, with a small volume or tolerance as often as with a great one.
func anyProver(r *rand.Rand) api.Prover {
	return api.Prover{Volume: 1 + r.Intn(100000)>>r.Intn(17), Tolerance: r.Intn(10001) >> r.Intn(15)}
}

// anyRuns are n runs that differ by some tolerances.
func anyRuns(r *rand.Rand, p api.Prover, n int) []int {
	least := 1 + r.Intn(mostRun)>>r.Intn(31)
	apart := least / 1000000 * p.Tolerance
	if least < 1<<24 {
		apart = least * p.Tolerance / 1000000
	}
	apart += r.Intn(apart/2 + 2)
	runs := make([]int, n)
	for i := range runs {
		runs[i] = min(least+r.Intn(apart+1), mostRun)
	}
	return runs
}

// P8.1: by the definition; and if runs repeat, some of them do.
func TestRepeatsByDefinition(t *testing.T) {
	r := rand.New(rand.NewSource(81))
	yes := 0
	for range 20000 {
		p := anyProver(r)
		runs := anyRuns(r, p, 1+r.Intn(20))
		want := repeatByDefinition(p, runs)
		expectRepeats(t, p, runs, want)
		if want {
			yes++
			from := r.Intn(len(runs))
			expectRepeats(t, p, runs[from:from+1+r.Intn(len(runs)-from)], true)
		}
	}
	if yes < 2000 || yes > 18000 {
		t.Errorf("%d of 20000 lists repeat: the test says little", yes)
	}
}

// P8.2: the example of the chapter, and windows at other places.
func TestProveWindows(t *testing.T) {
	for _, x := range []struct {
		runs          []int
		factor, first int
	}{
		{exampleRuns(), 99980, 1},
		{exampleRuns()[1:], 99980, 0},
		{same(5, 2000), 100000, 0},
		{same(20, 2000), 100000, 0},
		{slices.Concat(same(1, 1990), same(5, 2000)), 100000, 1},
		{slices.Concat(same(5, 2000), same(5, 2500)), 100000, 0},
		{slices.Concat(same(4, 2000), same(5, 2500)), 80000, 4},
		{slices.Concat(same(4, 2000), same(5, 2500), same(11, 2000)), 80000, 4},
		{slices.Concat(same(4, 2000), same(4, 2500), same(4, 2000), same(8, 2500)), 80000, 12},
		{slices.Concat(same(15, 2000), same(5, 2500)), 100000, 0},
		{slices.Concat(same(4, 3000), same(4, 2000), same(4, 2500), same(3, 2600), same(5, 1600)), 125000, 15},
		{[]int{2000, 2001, 2002, 2001, 2001, 2001, 2001}, 99940, 1},
		{[]int{2002, 2000, 2002, 2001, 2001, 2001, 2001}, 99940, 2},
		{[]int{2002, 2000, 2001, 2000, 2001, 2000, 2002}, 99980, 1},
	} {
		expectProve(t, example(), exampleMeter(), x.runs, x.factor, x.first, api.OK)
	}
}

// P8.2: factors are rounded half up, and depend on the volume of the prover and the Pulses of the meter, not on its Bits and its old Factor.
func TestProveFactors(t *testing.T) {
	for _, x := range []struct {
		volume, pulses int
		runs           []int
		factor         int
	}{
		{1000, 2000, []int{2001, 2000, 2000, 2001, 2000}, 99980}, // 99980.004
		{1, 1000, same(5, 1), 100000},
		{1000, 1, same(5, 1), 100000},
		{1, 8001, same(5, 8), 100013}, // 100012.5
		{1, 8003, same(5, 8), 100038}, // 100037.5
		{3, 2667, same(5, 8), 100013}, // 100012.5
		{1, 3001, same(5, 3), 100033}, // 100033.33
		{1, 3002, same(5, 3), 100067}, // 100066.67
		{1, 3000, same(5, 3), 100000},
		{100000, 1 << 20, same(5, 1<<27), 78125},
		{100000, 1 << 20, same(5, 209715200), 50000},
		{100000, 1 << 20, same(5, 52428800), 200000},
		{100000, 1 << 19, same(5, 104857600), 50000},
	} {
		p := api.Prover{Volume: x.volume, Tolerance: 10000}
		for _, m := range []api.Meter{
			{Pulses: x.pulses, Bits: 16, Factor: 50000}, {Pulses: x.pulses, Bits: 32, Factor: 100000}, {Pulses: x.pulses, Bits: 32, Factor: 200000},
		} {
			expectProve(t, p, m, x.runs, x.factor, 0, api.OK)
		}
	}
}

// P8.2: factors at the ends of their range. It is the rounded factor that counts.
func TestProveFactorRange(t *testing.T) {
	fine := api.Meter{Pulses: 1000000, Bits: 16, Factor: 100000}
	most := api.Meter{Pulses: 1 << 20, Bits: 16, Factor: 100000}
	for _, x := range []struct {
		volume int
		m      api.Meter
		runs   []int
		factor int // 0: it is out of range
	}{
		{1, pulses(4000), same(5, 8), 50000},
		{1, pulses(1), same(5, 1), 0},    // 100
		{1, pulses(3999), same(5, 8), 0}, // 49987.5
		{1, pulses(99999), same(5, 200), 50000},
		{1, pulses(99998), same(5, 200), 0},         // 49999
		{10, pulses(99999), same(5, 2000), 50000},   // 49999.5
		{1, pulses(999989), same(5, 2000), 0},       // 49999.45
		{1, pulses(400000), same(5, 200), 200000},   // 200000
		{1, pulses(400001), same(5, 200), 0},        // 200000.5
		{2, pulses(400001), same(5, 400), 0},        // 200000.5
		{1000, fine, same(5, 2000000), 50000},       // 50000
		{1000, fine, same(5, 2000020), 50000},       // 49999.500005
		{1000, fine, same(5, 2000021), 0},           // 49999.475
		{1000, fine, same(5, 500000), 200000},       // 200000
		{1000, fine, same(5, 499999), 200000},       // 200000.4
		{1000, fine, same(5, 499998), 0},            // 200000.8
		{100000, most, same(5, mostRun), 0},         // 9765.6
		{1, pulses(1), same(5, mostRun), 0},         // 0.00000009
		{100000, most, same(5, 1), 0},               // 10485760000000
		{100000, most, same(20, mostRun), 0},        // 9765.6
		{100000, most, same(5, 209715200), 50000},   // 50000
		{100000, most, same(5, 52428800), 200000},   // 200000
		{100000, most, same(5, 209715200-1), 50000}, // 50000.0002
		{100000, most, same(5, 209718000), 0},       // 49999.33
		{100000, most, same(5, 52428600), 0},        // 200000.76
	} {
		p, want := api.Prover{Volume: x.volume, Tolerance: 0}, api.OK
		if x.factor == 0 {
			want = api.ErrRange
		}
		expectProve(t, p, x.m, x.runs, x.factor, 0, want)
	}
	// Nearer to the ends than equal runs come.
	wide := api.Prover{Volume: 1000, Tolerance: 20}
	expectProve(t, wide, fine, append(same(4, 500000), 499994), 200000, 0, api.OK)   // 200000.48
	expectProveError(t, wide, fine, append(same(4, 500000), 499993), api.ErrRange)   // 200000.56
	expectProve(t, wide, fine, append(same(4, 2000020), 2000020), 50000, 0, api.OK)  // 49999.500005
	expectProveError(t, wide, fine, append(same(4, 2000020), 2000021), api.ErrRange) // 49999.495
	expectProve(t, wide, fine, []int{2000021, 2000019, 2000020, 2000020, 2000020}, 50000, 0, api.OK)
}

// P8.2: if the first five runs that repeat give a factor that is out of range, later ones do not help.
func TestProveFactorRangeOfFirstWindow(t *testing.T) {
	for _, wrong := range []int{1, 900, 4200, mostRun} {
		expectProveError(t, example(), exampleMeter(), slices.Concat(same(5, wrong), same(5, 2000)), api.ErrRange)
		expectProveError(t, example(), exampleMeter(), slices.Concat([]int{2000, 2000}, same(5, wrong), same(5, 2000)), api.ErrRange)
		expectProve(t, example(), exampleMeter(), slices.Concat(same(4, wrong), same(5, 2000)), 100000, 4, api.OK)
		expectProve(t, example(), exampleMeter(), slices.Concat(same(5, 2000), same(5, wrong)), 100000, 0, api.OK)
	}
}

// P8.2: no five runs in a row repeat, or there are fewer than five.
func TestProveRepeat(t *testing.T) {
	for n := range 5 {
		expectProveError(t, example(), exampleMeter(), same(n, 2000), api.ErrRepeat)
		expectProveError(t, example(), exampleMeter(), same(n, mostRun), api.ErrRepeat)
	}
	expectProveError(t, example(), exampleMeter(), nil, api.ErrRepeat)
	for _, runs := range [][]int{
		exampleRuns()[:5],
		{2000, 2000, 2000, 2000, 2002},
		{2002, 2000, 2000, 2000, 2000},
		{2000, 2000, 2002, 2000, 2000, 2000, 2000},
		{2000, 2000, 2000, 2000, 2002, 2000, 2000, 2000, 2000},
		slices.Repeat([]int{2000, 2000, 2000, 2000, 2002}, 4),
		slices.Repeat([]int{2000, 2002}, 10),
		{1, 2, 3, 4, 5, 6},
		{mostRun, 1, mostRun, 1, mostRun, 1},
	} {
		expectProveError(t, example(), exampleMeter(), runs, api.ErrRepeat)
	}
	// The tolerance decides.
	tight, wide := api.Prover{Volume: 1000, Tolerance: 499}, api.Prover{Volume: 1000, Tolerance: 10000}
	expectProveError(t, tight, exampleMeter(), exampleRuns(), api.ErrRepeat)
	expectProve(t, wide, exampleMeter(), exampleRuns(), 100080, 0, api.OK)
}

// P8.2: numbers that are no runs, also where runs before or behind them repeat; this comes before ErrRepeat.
func TestProveRunRange(t *testing.T) {
	for _, n := range noRuns() {
		for size := 1; size <= 20; size++ {
			for i := range size {
				expectProveError(t, example(), exampleMeter(), replaced(same(size, 2000), i, n), api.ErrRange)
			}
		}
		expectProveError(t, example(), exampleMeter(), []int{1, 2, 3, 4, 5, 6, n}, api.ErrRange)
		expectProveError(t, example(), exampleMeter(), same(5, n), api.ErrRange)
	}
}

// P8.2: as many runs as there may be, and more; this comes before the errors of runs.
func TestProveLimit(t *testing.T) {
	for n := 21; n <= 50; n++ {
		for _, run := range []int{2000, 0, -1, mostRun + 1, 1, mostRun, math.MaxInt} {
			expectProveError(t, example(), exampleMeter(), same(n, run), api.ErrLimit)
		}
		expectProveError(t, example(), exampleMeter(), slices.Repeat([]int{1, 2}, n), api.ErrLimit)
	}
	expectProve(t, example(), exampleMeter(), same(20, 2000), 100000, 0, api.OK)
	expectProve(t, example(), exampleMeter(), slices.Concat(slices.Repeat([]int{1, 2, 3}, 5), same(5, 2000)), 100000, 15, api.OK)
}

// P8.2: a prover or a meter that is not valid; this comes before all other errors.
func TestProveInvalid(t *testing.T) {
	lists := [][]int{nil, exampleRuns(), same(5, 2000), same(21, 2000), same(21, 0), {0}, {1, 2, 3, 4, 5}, same(5, 1), {math.MinInt, math.MaxInt}}
	for _, runs := range lists {
		for _, p := range badProvers() {
			expectProveError(t, p, exampleMeter(), runs, api.ErrInvalid)
		}
		for _, m := range badMeters() {
			expectProveError(t, example(), m, runs, api.ErrInvalid)
			expectProveError(t, api.Prover{}, m, runs, api.ErrInvalid)
		}
	}
}

// proveByDefinition is Prove for a valid prover and meter, and at most MaxRuns runs, with exact arithmetic.
func proveByDefinition(p api.Prover, m api.Meter, runs []int) (int, int, api.Errno) {
	for first := 0; first+5 <= len(runs); first++ {
		five := runs[first : first+5]
		if !repeatByDefinition(p, five) {
			continue
		}
		exact := big.NewRat(500*int64(p.Volume), int64(five[0]+five[1]+five[2]+five[3]+five[4]))
		exact.Mul(exact, big.NewRat(int64(m.Pulses), 1)).Add(exact, big.NewRat(1, 2))
		factor := new(big.Int).Div(exact.Num(), exact.Denom()).Int64()
		if factor < 50000 || factor > 200000 {
			return 0, 0, api.ErrRange
		}
		return int(factor), first, api.OK
	}
	return 0, 0, api.ErrRepeat
}

// anyMeter is a valid meter with Pulses so that runs of p with about run pulses give a factor near its range, if there is one.
func anyMeter(r *rand.Rand, p api.Prover, run int) api.Meter {
	n := run * (400 + r.Intn(1800)) / p.Volume
	return api.Meter{Pulses: min(max(n, 1), 1<<20), Bits: 16 << r.Intn(2), Factor: 50000 + r.Intn(150001)}
}

// P8.2: by the definition, for lists whose windows repeat or do not, and factors in and out of their range.
func TestProveByDefinition(t *testing.T) {
	r := rand.New(rand.NewSource(82))
	kinds := map[api.Errno]int{}
	later := 0
	for range 40000 {
		p := anyProver(r)
		runs := anyRuns(r, p, r.Intn(21))
		run := mostRun
		if len(runs) > 0 {
			run = runs[0]
		}
		m := anyMeter(r, p, run)
		want, first, e := proveByDefinition(p, m, runs)
		expectProve(t, p, m, runs, want, first, e)
		kinds[e]++
		if first > 0 {
			later++
		}
	}
	if kinds[api.OK] < 4000 || kinds[api.ErrRepeat] < 4000 || kinds[api.ErrRange] < 1000 || later < 500 {
		t.Errorf("of each kind: %v, %d of them not at the beginning: the test says little", kinds, later)
	}
}

// fiveRuns are a prover, a meter and five runs that repeat and give a factor.
func fiveRuns(t *testing.T, r *rand.Rand) (api.Prover, api.Meter, []int, int) {
	t.Helper()
	for range 1000 {
		p := anyProver(r)
		runs := anyRuns(r, p, 5)
		m := anyMeter(r, p, runs[0])
		if factor, _, e := Prove(p, m, runs); e == api.OK {
			return p, m, runs, factor
		}
	}
	t.Fatal("no five runs of 1000 give a factor")
	return api.Prover{}, api.Meter{}, nil, 0
}

// P8.2: the factor does not depend on the order of the five runs, and is not greater with more pulses.
func TestProveOrderAndMorePulses(t *testing.T) {
	r := rand.New(rand.NewSource(83))
	for range 2000 {
		p, m, runs, factor := fiveRuns(t, r)
		r.Shuffle(5, func(i, j int) { runs[i], runs[j] = runs[j], runs[i] })
		expectProve(t, p, m, runs, factor, 0, api.OK)
		more := slices.Clone(runs)
		more[r.Intn(5)] += 1 + r.Intn(3)
		if greater, _, e := Prove(p, m, more); e == api.OK && greater > factor {
			t.Errorf("Prove(%v, %v, %v) = %d, but %d with more pulses", p, m, runs, factor, greater)
		}
	}
}

// P8.2: with its factor, the meter measures five times the volume of the prover in the pulses of the five runs, but for rounding.
func TestProvedMeterMeasuresTheProver(t *testing.T) {
	r := rand.New(rand.NewSource(84))
	for range 5000 {
		p, m, runs, factor := fiveRuns(t, r)
		sum := 0
		for _, n := range runs {
			sum += n
		}
		m.Factor = factor
		litres, e := meter.Litres(m, sum)
		// The factor is off by at most 1/2, which is sum / (200 Pulses) litres, and Litres rounds down.
		off := max(litres-5*p.Volume, 5*p.Volume-litres)
		if e != api.OK || (off-1)*200*m.Pulses > sum {
			t.Errorf("%v measures %d, %d in the runs %v of %v", m, litres, e, runs, p)
		}
	}
}

// R1, R6: any numbers at all.
func TestAnyArguments(t *testing.T) {
	r := rand.New(rand.NewSource(85))
	wild := func() int {
		n := int(r.Uint64() >> r.Intn(bits.UintSize))
		if r.Intn(3) == 0 {
			return -n
		}
		return n
	}
	for range 20000 {
		p, m := api.Prover{Volume: wild(), Tolerance: wild()}, api.Meter{Pulses: wild(), Bits: wild(), Factor: wild()}
		if r.Intn(2) == 0 {
			p, m = example(), exampleMeter()
		}
		runs := make([]int, r.Intn(25))
		for i := range runs {
			runs[i] = wild()
		}
		if Repeats(p, runs) && !Valid(p) {
			t.Errorf("Repeats(%v, %v)", p, runs)
		}
		if factor, first, e := Prove(p, m, runs); e != api.OK && (factor != 0 || first != 0) {
			t.Errorf("Prove(%v, %v, %v) = %d, %d, %d", p, m, runs, factor, first, e)
		}
	}
}

// R2: the runs, and what lies around them, are left as they are.
func TestRunsAreLeftAlone(t *testing.T) {
	r := rand.New(rand.NewSource(86))
	for range 200 {
		p := anyProver(r)
		whole := anyRuns(r, p, 30)
		before := slices.Clone(whole)
		runs := whole[5:][:r.Intn(22)]
		Repeats(p, runs)
		Prove(p, anyMeter(r, p, whole[0]), runs)
		if !slices.Equal(whole, before) {
			t.Fatalf("the runs became %v, they were %v", whole, before)
		}
	}
}
