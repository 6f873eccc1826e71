package meter

import (
	"math"
	"math/big"
	"math/bits"
	"math/rand"
	"testing"

	"batchline/api"
)

const (
	maxPulses = api.MaxPulses
	lastShort = 1<<16 - 1 // the last readings
	lastLong  = 1<<32 - 1

	mostLitres = 550305569701 // of the example: 549755813.888 times 1001, rounded down
)

// example is the meter of the chapter's examples.
func example() api.Meter {
	return api.Meter{Pulses: 2000, Bits: 16, Factor: 100100}
}

// long is the example with a counter of 32 bits.
func long() api.Meter {
	m := example()
	m.Bits = 32
	return m
}

// last is the last reading of a valid meter.
func last(m api.Meter) int {
	if m.Bits == 16 {
		return lastShort
	}
	return lastLong
}

func expectValid(t *testing.T, m api.Meter, want bool) {
	t.Helper()
	if got := Valid(m); got != want {
		t.Errorf("Valid(%v) = %v", m, got)
	}
}

func expectRead(t *testing.T, m api.Meter, c api.Count, reading int, want api.Count, wantE api.Errno) {
	t.Helper()
	if got, e := Read(m, c, reading); got != want || e != wantE {
		t.Errorf("Read(%v, %v, %d) = %v, %d, want %v, %d", m, c, reading, got, e, want, wantE)
	}
}

func expectReadError(t *testing.T, m api.Meter, c api.Count, reading int, want api.Errno) {
	t.Helper()
	expectRead(t, m, c, reading, api.Count{}, want)
}

func expectLitres(t *testing.T, m api.Meter, pulses, want int, wantE api.Errno) {
	t.Helper()
	if got, e := Litres(m, pulses); got != want || e != wantE {
		t.Errorf("Litres(%v, %d) = %d, %d, want %d, %d", m, pulses, got, e, want, wantE)
	}
}

func expectBetween(t *testing.T, m api.Meter, a, b api.Count, want int, wantE api.Errno) {
	t.Helper()
	if got, e := Between(m, a, b); got != want || e != wantE {
		t.Errorf("Between(%v, %v, %v) = %d, %d, want %d, %d", m, a, b, got, e, want, wantE)
	}
}

// read is Read of what has no error.
func read(t *testing.T, m api.Meter, c api.Count, reading int) api.Count {
	t.Helper()
	next, e := Read(m, c, reading)
	if e != api.OK {
		t.Fatalf("Read(%v, %v, %d) has the error %d", m, c, reading, e)
	}
	return next
}

// badMeters are meters of which one number, or all, are not in their ranges.
func badMeters() []api.Meter {
	bad := []api.Meter{{}, {Pulses: -1, Bits: -1, Factor: -1}}
	for _, n := range []int{math.MinInt, -1, 0, 1<<20 + 1, 1 << 40, math.MaxInt} {
		bad = append(bad, api.Meter{Pulses: n, Bits: 16, Factor: 100000})
	}
	for _, n := range []int{math.MinInt, -16, -1, 0, 1, 15, 17, 31, 33, 48, 64, 1 << 32, 1<<32 + 16, math.MaxInt} {
		bad = append(bad, api.Meter{Pulses: 1, Bits: n, Factor: 100000})
	}
	for _, n := range []int{math.MinInt, -50000, -1, 0, 1, 49999, 200001, 1000000, math.MaxInt} {
		bad = append(bad, api.Meter{Pulses: 1, Bits: 32, Factor: n})
	}
	return bad
}

// badCounts are counts that are not valid for a valid meter.
func badCounts(m api.Meter) []api.Count {
	var bad []api.Count
	for _, n := range []int{math.MinInt, -lastLong, -1, last(m) + 1, 2 * last(m), 1 << 33, math.MaxInt} {
		bad = append(bad, api.Count{Last: n}, api.Count{Last: n, Pulses: maxPulses})
	}
	for _, n := range []int{math.MinInt, -maxPulses, -1, maxPulses + 1, math.MaxInt} {
		bad = append(bad, api.Count{Pulses: n}, api.Count{Last: last(m), Pulses: n})
	}
	return append(bad, api.Count{Last: -1, Pulses: -1}, api.Count{Last: last(m) + 1, Pulses: maxPulses + 1})
}

// P7.1: the ends of all ranges, and what is beyond them.
func TestValid(t *testing.T) {
	for _, pulses := range []int{1, 2, 2000, 1<<20 - 1, 1 << 20} {
		for _, bits := range []int{16, 32} {
			for _, factor := range []int{50000, 50001, 100000, 199999, 200000} {
				expectValid(t, api.Meter{Pulses: pulses, Bits: bits, Factor: factor}, true)
			}
		}
	}
	for bits := -70; bits <= 70; bits++ {
		expectValid(t, api.Meter{Pulses: 1, Bits: bits, Factor: 100000}, bits == 16 || bits == 32)
	}
	for _, m := range badMeters() {
		expectValid(t, m, false)
	}
}

// P7.1: counters that go on, that stand still, and that begin at 0 again.
func TestReadExamples(t *testing.T) {
	for _, x := range []struct {
		m       api.Meter
		c       api.Count
		reading int
		pulses  int
	}{
		{example(), api.Count{Last: 65530, Pulses: 100}, 4, 110},
		{example(), api.Count{}, 0, 0},
		{example(), api.Count{}, 1, 1},
		{example(), api.Count{}, lastShort, lastShort},
		{example(), api.Count{Last: 1}, 0, lastShort},
		{example(), api.Count{Last: lastShort}, 0, 1},
		{example(), api.Count{Last: lastShort}, lastShort, 0},
		{example(), api.Count{Last: lastShort, Pulses: 3}, lastShort - 1, lastShort + 3},
		{example(), api.Count{Last: 70, Pulses: 1 << 30}, 70, 1 << 30},
		{example(), api.Count{Last: 70, Pulses: 1 << 30}, 90, 1<<30 + 20},
		{example(), api.Count{Last: 90, Pulses: 0}, 70, lastShort + 1 - 20},
		{example(), api.Count{Last: 32768, Pulses: 5}, 0, 32773},
		{long(), api.Count{Last: 65530, Pulses: 100}, 4, 100 + lastLong + 1 - 65526},
		{long(), api.Count{Last: lastLong - 5, Pulses: 100}, 4, 110},
		{long(), api.Count{}, lastLong, lastLong},
		{long(), api.Count{Last: 1}, 0, lastLong},
		{long(), api.Count{Last: lastLong}, 0, 1},
		{long(), api.Count{Last: lastShort, Pulses: 7}, lastShort + 1, 8},
		{long(), api.Count{Last: 1 << 31, Pulses: 7}, 1 << 31, 7},
		{long(), api.Count{Last: 1 << 31, Pulses: 7}, 0, 1<<31 + 7},
	} {
		expectRead(t, x.m, x.c, x.reading, api.Count{Last: x.reading, Pulses: x.pulses}, api.OK)
	}
}

// P7.1: for each distance between two readings, Pulses grow by it, modulo the readings.
func TestReadDistances(t *testing.T) {
	for _, m := range []api.Meter{example(), long()} {
		n := last(m) + 1
		for _, from := range []int{0, 1, 2, n / 3, n / 2, n - 2, n - 1} {
			for _, d := range []int{0, 1, 2, n / 3, n/2 - 1, n / 2, n/2 + 1, n - 2, n - 1} {
				to := (from + d) % n
				expectRead(t, m, api.Count{Last: from, Pulses: 12}, to, api.Count{Last: to, Pulses: 12 + d}, api.OK)
			}
		}
	}
	for from := 0; from <= lastShort; from += 13 {
		to := (from*7 + 11) % (lastShort + 1)
		d := (to - from + lastShort + 1) % (lastShort + 1)
		expectRead(t, example(), api.Count{Last: from}, to, api.Count{Last: to, Pulses: d}, api.OK)
	}
}

// P7.1: the limit of Pulses is still permitted.
func TestReadLimit(t *testing.T) {
	for _, m := range []api.Meter{example(), long()} {
		n := last(m)
		for _, x := range []struct {
			c       api.Count
			reading int
			e       api.Errno
		}{
			{api.Count{Last: 5, Pulses: maxPulses - 3}, 8, api.OK},
			{api.Count{Last: 5, Pulses: maxPulses - 3}, 9, api.ErrLimit},
			{api.Count{Last: 5, Pulses: maxPulses}, 5, api.OK},
			{api.Count{Last: 5, Pulses: maxPulses}, 6, api.ErrLimit},
			{api.Count{Last: 5, Pulses: maxPulses}, 4, api.ErrLimit},
			{api.Count{Last: n, Pulses: maxPulses - 1}, 0, api.OK},
			{api.Count{Last: n, Pulses: maxPulses - 1}, 1, api.ErrLimit},
			{api.Count{Last: 0, Pulses: maxPulses - n}, n, api.OK},
			{api.Count{Last: 0, Pulses: maxPulses - n + 1}, n, api.ErrLimit},
		} {
			want := api.Count{}
			if x.e == api.OK {
				want = api.Count{Last: x.reading, Pulses: maxPulses}
			}
			expectRead(t, m, x.c, x.reading, want, x.e)
		}
	}
}

// P7.1: readings that are none; this comes before the limit.
func TestReadRange(t *testing.T) {
	for _, m := range []api.Meter{example(), long()} {
		for _, reading := range []int{math.MinInt, -lastLong, -1, last(m) + 1, 2*last(m) + 2, 1 << 33, math.MaxInt} {
			for _, c := range []api.Count{{}, {Last: last(m), Pulses: 7}, {Last: 3, Pulses: maxPulses}, {Last: last(m), Pulses: maxPulses}} {
				expectReadError(t, m, c, reading, api.ErrRange)
			}
		}
	}
	// What is a reading depends on the meter.
	expectReadError(t, example(), api.Count{}, 65536, api.ErrRange)
	expectRead(t, long(), api.Count{}, 65536, api.Count{Last: 65536, Pulses: 65536}, api.OK)
}

// P7.1: meters and counts that are not valid; this comes before the errors of the reading and of the limit.
func TestReadInvalid(t *testing.T) {
	for _, reading := range []int{math.MinInt, -1, 0, 4, lastShort, lastLong, lastLong + 1, math.MaxInt} {
		for _, m := range badMeters() {
			for _, c := range []api.Count{{}, {Last: 5, Pulses: maxPulses}, {Last: -1, Pulses: -1}, {Last: math.MaxInt, Pulses: math.MaxInt}, {Last: math.MinInt, Pulses: math.MinInt}} {
				expectReadError(t, m, c, reading, api.ErrInvalid)
			}
		}
		for _, m := range []api.Meter{example(), long()} {
			for _, c := range badCounts(m) {
				expectReadError(t, m, c, reading, api.ErrInvalid)
			}
		}
	}
	// Whether Last is a reading depends on the meter.
	expectReadError(t, example(), api.Count{Last: 65536}, 3, api.ErrInvalid)
	expectRead(t, long(), api.Count{Last: 65536}, 65539, api.Count{Last: 65539, Pulses: 3}, api.OK)
}

// P7.1: if less than a whole turn of the counter comes between two readings, Pulses are all that came, however often it is read.
func TestFurtherReadings(t *testing.T) {
	r := rand.New(rand.NewSource(7))
	for _, m := range []api.Meter{example(), long()} {
		n := last(m) + 1
		for range 500 {
			first := r.Intn(n)
			seldom := api.Count{Last: first, Pulses: r.Intn(1000)}
			often, came := seldom, seldom.Pulses
			for range 20 {
				more := r.Intn(n)
				for _, part := range []int{more / 3, more / 3, more - more/3*2} {
					came += part
					often = read(t, m, often, (often.Last+part)%n)
				}
				seldom = read(t, m, seldom, (seldom.Last+more)%n)
				if seldom != often || seldom.Pulses != came {
					t.Fatalf("%v: %d pulses came, counted %v and %v", m, came, seldom, often)
				}
			}
		}
	}
}

// P7.2: the example of the chapter, quotients that are rounded down, and the ends of the ranges.
func TestLitresExamples(t *testing.T) {
	exact := api.Meter{Pulses: 1000, Bits: 32, Factor: 100000}
	coarse := api.Meter{Pulses: 1, Bits: 16, Factor: 200000}
	fine := api.Meter{Pulses: 1 << 20, Bits: 16, Factor: 50000}
	for _, x := range []struct {
		m              api.Meter
		pulses, litres int
	}{
		{example(), 4001, 2002},
		{example(), 4000, 2002},
		{example(), 3999, 2001},
		{example(), 0, 0},
		{example(), 1, 0},
		{example(), 2, 1},
		{example(), 2000, 1001},
		{example(), maxPulses, mostLitres},
		{exact, 0, 0},
		{exact, 1, 1},
		{exact, 999, 999},
		{exact, maxPulses, maxPulses},
		{coarse, 0, 0},
		{coarse, 1, 2000},
		{coarse, maxPulses, 2000 * maxPulses},
		{fine, 2097, 0},
		{fine, 2098, 1},
		{fine, 1 << 20, 500},
		{fine, maxPulses - 1, 500<<20 - 1},
		{fine, maxPulses, 500 << 20},
	} {
		expectLitres(t, x.m, x.pulses, x.litres, api.OK)
	}
}

// P7.2: the errors, and their order.
func TestLitresErrors(t *testing.T) {
	beyond := []int{math.MinInt, -maxPulses, -1, maxPulses + 1, math.MaxInt}
	for _, m := range []api.Meter{example(), long(), {Pulses: 1 << 20, Bits: 16, Factor: 50000}, {Pulses: 1, Bits: 32, Factor: 200000}} {
		for _, pulses := range beyond {
			expectLitres(t, m, pulses, 0, api.ErrRange)
		}
	}
	for _, m := range badMeters() {
		for _, pulses := range append([]int{0, 1, 4001, maxPulses}, beyond...) {
			expectLitres(t, m, pulses, 0, api.ErrInvalid)
		}
	}
}

// anyOf is a random number from 0 to most, small ones as often as great ones.
func anyOf(r *rand.Rand, most int) int {
	return r.Intn(most+1) >> r.Intn(bits.Len(uint(most)))
}

// anyMeter is a valid meter.
func anyMeter(r *rand.Rand) api.Meter {
	return api.Meter{Pulses: 1 + anyOf(r, 1<<20-1), Bits: 16 << r.Intn(2), Factor: 50000 + r.Intn(150001)}
}

// litresOf returns the litres of pulses, by the definition.
func litresOf(m api.Meter, pulses int) int {
	exact := big.NewRat(int64(pulses), 1)
	exact.Mul(exact, big.NewRat(1000, int64(m.Pulses)))
	exact.Mul(exact, big.NewRat(int64(m.Factor), 100000))
	return int(new(big.Int).Div(exact.Num(), exact.Denom()).Int64())
}

// P7.2: by the definition, with exact arithmetic.
func TestLitresExactly(t *testing.T) {
	r := rand.New(rand.NewSource(72))
	for range 20000 {
		m, pulses := anyMeter(r), anyOf(r, maxPulses)
		expectLitres(t, m, pulses, litresOf(m, pulses), api.OK)
	}
	for range 1000 {
		m := anyMeter(r)
		expectLitres(t, m, maxPulses, litresOf(m, maxPulses), api.OK)
		expectLitres(t, m, maxPulses-1, litresOf(m, maxPulses-1), api.OK)
	}
}

// P7.3: both ends are rounded alone; what the counter shows does not matter.
func TestBetweenExamples(t *testing.T) {
	for _, x := range []struct {
		a, b, litres int
	}{
		{0, 0, 0},
		{0, 4001, 2002},
		{4001, 4001, 0},
		{3999, 4001, 1},
		{3999, 4000, 1},
		{4000, 4001, 0},
		{1, 2, 1},
		{1, 4001, 2002},
		{2, 4001, 2001},
		{2000, 4000, 1001},
		{maxPulses, maxPulses, 0},
		{0, maxPulses, mostLitres},
		{4001, maxPulses, mostLitres - 2002},
	} {
		for _, lasts := range [][2]int{{0, 0}, {0, lastShort}, {lastShort, 0}, {lastShort, lastShort}, {9, 8}} {
			a, b := api.Count{Last: lasts[0], Pulses: x.a}, api.Count{Last: lasts[1], Pulses: x.b}
			expectBetween(t, example(), a, b, x.litres, api.OK)
			expectBetween(t, long(), a, b, x.litres, api.OK)
		}
	}
}

// P7.3: counts in the wrong order.
func TestBetweenOrder(t *testing.T) {
	for _, m := range []api.Meter{example(), long()} {
		for _, x := range [][2]int{{1, 0}, {4001, 4000}, {maxPulses, maxPulses - 1}, {maxPulses, 0}} {
			for _, lasts := range [][2]int{{0, 0}, {0, last(m)}, {last(m), 0}, {5, 6}} {
				a, b := api.Count{Last: lasts[0], Pulses: x[0]}, api.Count{Last: lasts[1], Pulses: x[1]}
				expectBetween(t, m, a, b, 0, api.ErrOrder)
			}
		}
	}
}

// P7.3: a meter or a count that is not valid; this comes before the order.
func TestBetweenInvalid(t *testing.T) {
	small, great := api.Count{Last: 4}, api.Count{Last: 3, Pulses: maxPulses}
	for _, m := range badMeters() {
		for _, a := range []api.Count{small, great, {Last: -1}, {Pulses: maxPulses + 1}} {
			for _, b := range []api.Count{small, great, {Pulses: -1}, {Last: 1 << 32}} {
				expectBetween(t, m, a, b, 0, api.ErrInvalid)
			}
		}
	}
	for _, m := range []api.Meter{example(), long()} {
		for _, bad := range badCounts(m) {
			for _, c := range []api.Count{small, great, bad} {
				expectBetween(t, m, bad, c, 0, api.ErrInvalid)
				expectBetween(t, m, c, bad, 0, api.ErrInvalid)
			}
		}
	}
	// Whether Last is a reading depends on the meter.
	above := api.Count{Last: 65536, Pulses: 4001}
	expectBetween(t, example(), small, above, 0, api.ErrInvalid)
	expectBetween(t, example(), above, great, 0, api.ErrInvalid)
	expectBetween(t, long(), small, above, 2002, api.OK)
}

// P7.3: it is the difference of Litres, and volumes between counts that follow one another add up.
func TestBetweenAddsUp(t *testing.T) {
	r := rand.New(rand.NewSource(73))
	for range 2000 {
		m := anyMeter(r)
		first := api.Count{Last: r.Intn(last(m) + 1), Pulses: anyOf(r, maxPulses/2)}
		c, sum := first, 0
		for range 12 {
			next := read(t, m, c, r.Intn(last(m)+1))
			expectBetween(t, m, c, next, litresOf(m, next.Pulses)-litresOf(m, c.Pulses), api.OK)
			litres, _ := Between(m, c, next)
			sum += litres
			c = next
		}
		expectBetween(t, m, first, c, sum, api.OK)
	}
}
