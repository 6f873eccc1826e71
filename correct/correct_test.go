package correct

import (
	"math"
	"math/big"
	"math/rand"
	"testing"

	"batchline/api"
)

const most = api.MaxVolume

// diesel is the product of the chapter's example.
func diesel() api.Product {
	return api.Product{Name: "diesel", Density: 840, Expansion: 830, Compress: 800, Friction: 1200}
}

// liquid is a valid product with these properties.
func liquid(expansion, compress int) api.Product {
	p := diesel()
	p.Expansion, p.Compress = expansion, compress
	return p
}

// halfOf returns a / b, rounded half up, by exact arithmetic, for a positive b.
func halfOf(a, b *big.Int) *big.Int {
	twice := new(big.Int).Lsh(a, 1)
	return twice.Div(twice.Add(twice, b), new(big.Int).Lsh(b, 1))
}

// times returns a b.
func times(a, b int) *big.Int {
	return new(big.Int).Mul(big.NewInt(int64(a)), big.NewInt(int64(b)))
}

// scaled returns a b / c, rounded half up.
func scaled(a, b, c int) int {
	return int(halfOf(times(a, b), big.NewInt(int64(c))).Int64())
}

// factorOf returns the factor by its definition.
func factorOf(p api.Product, c api.Condition) int {
	ctl := 1000000 - scaled(p.Expansion, c.Temp-150, 10)
	cpl := 1000000 + scaled(p.Compress, c.Pressure, 1000)
	return scaled(ctl, cpl, 1000000)
}

// expectFactor checks Factor of a valid product at a valid condition.
func expectFactor(t *testing.T, p api.Product, c api.Condition, want int) {
	t.Helper()
	if got, e := Factor(p, c); got != want || e != api.OK {
		t.Errorf("Factor(%v, %v) = %d, %d, want %d", p, c, got, e, want)
	}
}

// P5.1: the example of the chapter, halves in each of the three roundings, and the ends of the ranges.
func TestFactorExamples(t *testing.T) {
	for _, x := range []struct {
		expansion, compress, temp, pressure, want int
	}{
		{830, 800, 250, 5000, 995667},
		{830, 800, 150, 0, 1000000},
		{830, 800, 250, 0, 991700},
		{830, 800, 150, 5000, 1004000},
		{830, 800, 50, 0, 1008300},
		{830, 800, 140, 0, 1000830},
		{0, 0, 1000, 20000, 1000000},
		{0, 0, -400, 0, 1000000},
		// A half of the temperature is rounded up, above and below the standard one, and then taken away.
		{1, 0, 155, 0, 999999},
		{1, 0, 154, 0, 1000000},
		{1, 0, 145, 0, 1000000},
		{1, 0, 144, 0, 1000001},
		{5, 0, 151, 0, 999999},
		{5, 0, 149, 0, 1000000},
		{3, 0, 155, 0, 999998},
		{3, 0, 145, 0, 1000001},
		// A half of the pressure is rounded up.
		{0, 1, 150, 499, 1000000},
		{0, 1, 150, 500, 1000001},
		{0, 1, 150, 1500, 1000002},
		{0, 4, 150, 125, 1000001},
		{0, 4, 150, 124, 1000000},
		// The product of both: 500000 of millionths are rounded up, one less is rounded down.
		{1000, 20, 650, 500, 950010}, // 950009.5
		{1000, 20, 640, 500, 951010}, // 951009.51
		{1000, 20, 660, 500, 949009}, // 949009.49
		{2000, 5000, -400, 0, 1110000},
		{2000, 5000, -400, 20000, 1221000},
		{2000, 5000, 1000, 0, 830000},
		{2000, 5000, 1000, 20000, 913000},
	} {
		expectFactor(t, liquid(x.expansion, x.compress), api.Condition{Temp: x.temp, Pressure: x.pressure}, x.want)
	}
}

// P5.1: only what expands and is compressed matters, nothing else of a product.
func TestFactorOfProducts(t *testing.T) {
	c := api.Condition{Temp: 250, Pressure: 5000}
	for _, p := range []api.Product{
		{Name: "a", Density: 400, Expansion: 830, Compress: 800, Friction: 1},
		{Name: "abcdefghijkl", Density: 1200, Expansion: 830, Compress: 800, Friction: 2000},
	} {
		expectFactor(t, p, c, 995667)
	}
}

// P5.1: each temperature and each pressure of some liquids by the definition; a higher temperature never gives a greater factor, a higher pressure never a lesser one.
func TestFactorEachCondition(t *testing.T) {
	for _, p := range []api.Product{diesel(), liquid(1, 1), liquid(7, 3), liquid(999, 1), liquid(2000, 5000)} {
		last := math.MaxInt
		for temp := -400; temp <= 1000; temp++ {
			c := api.Condition{Temp: temp, Pressure: 777}
			expectFactor(t, p, c, factorOf(p, c))
			got, _ := Factor(p, c)
			if got > last {
				t.Fatalf("Factor(%v, %v) = %d, greater than %d", p, c, got, last)
			}
			last = got
		}
		last = 0
		for pressure := 0; pressure <= 20000; pressure++ {
			c := api.Condition{Temp: 333, Pressure: pressure}
			expectFactor(t, p, c, factorOf(p, c))
			got, _ := Factor(p, c)
			if got < last {
				t.Fatalf("Factor(%v, %v) = %d, less than %d", p, c, got, last)
			}
			last = got
		}
	}
}

// P5.1: any liquids at any conditions by the definition; every factor is one that Standard takes.
func TestFactorByDefinition(t *testing.T) {
	r := rand.New(rand.NewSource(7))
	for range 50000 {
		p := liquid(r.Intn(2001), r.Intn(5001))
		c := api.Condition{Temp: r.Intn(1401) - 400, Pressure: r.Intn(20001)}
		expectFactor(t, p, c, factorOf(p, c))
		factor, _ := Factor(p, c)
		if _, e := Standard(most, factor); e != api.OK {
			t.Fatalf("Standard takes no factor %d: %d", factor, e)
		}
	}
}

// P5.1: the errors, each alone, at the ends of the ranges, and in their order.
func TestFactorErrors(t *testing.T) {
	good := api.Condition{Temp: 250, Pressure: 5000}
	bad := api.Condition{Temp: 1001, Pressure: 5000}
	wrong := []api.Product{
		{},
		{Name: "Diesel", Density: 840, Expansion: 830, Compress: 800, Friction: 1200},
		{Name: "diesel", Density: 399, Expansion: 830, Compress: 800, Friction: 1200},
		{Name: "diesel", Density: 840, Expansion: 830, Compress: 800, Friction: 2001},
		liquid(-1, 800), liquid(2001, 800), liquid(830, -1), liquid(830, 5001),
		liquid(math.MinInt, 800), liquid(830, math.MaxInt),
	}
	for _, p := range wrong {
		for _, c := range []api.Condition{good, bad} {
			if got, e := Factor(p, c); got != 0 || e != api.ErrInvalid {
				t.Errorf("Factor(%v, %v) = %d, %d, want the error %d", p, c, got, e, api.ErrInvalid)
			}
		}
	}
	for _, c := range []api.Condition{
		bad, {Temp: 1001}, {Temp: -401}, {Temp: -401, Pressure: 20000},
		{Temp: 150, Pressure: -1}, {Temp: 150, Pressure: 20001}, {Temp: -401, Pressure: -1},
		{Temp: math.MinInt}, {Temp: math.MaxInt}, {Temp: 1<<32 + 150}, {Temp: 150, Pressure: 1 << 32},
		{Pressure: math.MinInt}, {Pressure: math.MaxInt}, {Temp: math.MaxInt, Pressure: math.MinInt},
	} {
		for _, p := range []api.Product{diesel(), liquid(0, 0)} {
			if got, e := Factor(p, c); got != 0 || e != api.ErrRange {
				t.Errorf("Factor(%v, %v) = %d, %d, want the error %d", p, c, got, e, api.ErrRange)
			}
		}
	}
}

// P5.2: the example of the chapter, halves, and the greatest volumes and factors.
func TestVolumeExamples(t *testing.T) {
	for _, x := range []struct{ volume, factor, standard, gross int }{
		{1000, 995667, 996, 1004},
		{0, 995667, 0, 0},
		{0, 1, 0, 0},
		{1000, 1000000, 1000, 1000},
		{1, 500000, 1, 2},
		{1, 499999, 0, 2},
		{3, 500000, 2, 6},
		{1, 2000000, 2, 1}, // gross 0.5
		{3, 2000000, 6, 2}, // gross 1.5
		{1, 1, 0, 1000000},
		{499999, 1, 0, 499999000000},
		{500000, 1, 1, 500000000000},
		{1, 3, 0, 333333},
		{2, 3, 0, 666667},
		{most, 1, 1099512, most * 1000000},
		{most, 1000000, most, most},
		{most, 2000000, 2 * most, most / 2},
		{most - 1, 2000000, 2*most - 2, most / 2},
	} {
		if got, e := Standard(x.volume, x.factor); got != x.standard || e != api.OK {
			t.Errorf("Standard(%d, %d) = %d, %d, want %d", x.volume, x.factor, got, e, x.standard)
		}
		if got, e := Gross(x.volume, x.factor); got != x.gross || e != api.OK {
			t.Errorf("Gross(%d, %d) = %d, %d, want %d", x.volume, x.factor, got, e, x.gross)
		}
	}
}

// anyVolume is a volume of any size.
func anyVolume(r *rand.Rand) int { return r.Intn(most+1) >> r.Intn(41) }

// anyFactor is a factor of any size.
func anyFactor(r *rand.Rand) int { return 1 + r.Intn(api.MaxFactor)>>r.Intn(21) }

// P5.2: any volumes and factors by the definition; Standard is monotone in both, and Gross undoes it where the factor is at least a million.
func TestVolumesByDefinition(t *testing.T) {
	r := rand.New(rand.NewSource(8))
	for range 50000 {
		volume, factor := anyVolume(r), anyFactor(r)
		standard, e := Standard(volume, factor)
		if want := scaled(volume, factor, 1000000); standard != want || e != api.OK {
			t.Fatalf("Standard(%d, %d) = %d, %d, want %d", volume, factor, standard, e, want)
		}
		gross, e := Gross(volume, factor)
		if want := scaled(volume, 1000000, factor); gross != want || e != api.OK {
			t.Fatalf("Gross(%d, %d) = %d, %d, want %d", volume, factor, gross, e, want)
		}
		more, _ := Standard(min(volume+1, most), factor)
		denser, _ := Standard(volume, min(factor+1, api.MaxFactor))
		if more < standard || denser < standard {
			t.Fatalf("Standard(%d, %d) = %d, but %d for more and %d for a greater factor", volume, factor, standard, more, denser)
		}
		if back, _ := Gross(standard, factor); factor >= 1000000 && standard <= most && back != volume {
			t.Fatalf("Gross(%d, %d) = %d, want %d", standard, factor, back, volume)
		}
	}
}

// wrongPairs are volumes and factors of which one, or both, are out of range.
var wrongPairs = [][2]int{
	{-1, 1000000}, {most + 1, 1000000}, {-1, 1}, {most + 1, 1},
	{1000, 0}, {1000, api.MaxFactor + 1}, {1000, -1}, {1000, -1000000}, {0, 0}, {most, 0},
	{-1, 0}, {most + 1, api.MaxFactor + 1},
	{math.MinInt, 1000000}, {math.MaxInt, 1000000}, {1000, math.MinInt}, {1000, math.MaxInt},
	{math.MinInt, math.MinInt}, {math.MaxInt, math.MaxInt}, {1 << 62, 4}, {1 << 44, 1 << 20}, {1, 1<<32 + 1},
}

// P5.2: volumes and factors out of range.
func TestVolumeErrors(t *testing.T) {
	for _, x := range wrongPairs {
		if got, e := Standard(x[0], x[1]); got != 0 || e != api.ErrRange {
			t.Errorf("Standard(%d, %d) = %d, %d, want the error %d", x[0], x[1], got, e, api.ErrRange)
		}
		if got, e := Gross(x[0], x[1]); got != 0 || e != api.ErrRange {
			t.Errorf("Gross(%d, %d) = %d, %d, want the error %d", x[0], x[1], got, e, api.ErrRange)
		}
	}
}

// expectAdd checks both results of Add.
func expectAdd(t *testing.T, r api.Running, gross, factor int, want api.Running, wantE api.Errno) {
	t.Helper()
	if got, e := Add(r, gross, factor); got != want || e != wantE {
		t.Errorf("Add(%v, %d, %d) = %v, %d, want %v, %d", r, gross, factor, got, e, want, wantE)
	}
}

// P5.3: the example of the chapter, rests that become a litre, and the greatest sums.
func TestAddExamples(t *testing.T) {
	for _, x := range []struct {
		r             api.Running
		gross, factor int
		want          api.Running
	}{
		{api.Running{}, 1000, 995667, api.Running{Volume: 995, Rest: 667000}},
		{api.Running{Volume: 995, Rest: 667000}, 1000, 995667, api.Running{Volume: 1991, Rest: 334000}},
		{api.Running{}, 0, 995667, api.Running{}},
		{api.Running{Volume: 7, Rest: 999999}, 0, 1, api.Running{Volume: 7, Rest: 999999}},
		{api.Running{Volume: 7, Rest: 999999}, 1, 1, api.Running{Volume: 8}},
		{api.Running{Volume: 7, Rest: 999998}, 1, 1, api.Running{Volume: 7, Rest: 999999}},
		{api.Running{Rest: 999999}, 1, 1999999, api.Running{Volume: 2, Rest: 999998}},
		{api.Running{Rest: 500000}, 1, 499999, api.Running{Rest: 999999}},
		{api.Running{}, 3, 1000000, api.Running{Volume: 3}},
		{api.Running{}, most, 1000000, api.Running{Volume: most}},
		{api.Running{Rest: 999999}, most, 1000000, api.Running{Volume: most, Rest: 999999}},
		{api.Running{}, most / 2, 2000000, api.Running{Volume: most}},
		{api.Running{Volume: most, Rest: 5}, 0, 2000000, api.Running{Volume: most, Rest: 5}},
		{api.Running{Volume: most, Rest: 5}, 1, 999994, api.Running{Volume: most, Rest: 999999}},
		{api.Running{Volume: most - 1, Rest: 5}, 1, 999995, api.Running{Volume: most}},
		{api.Running{Volume: most - 1, Rest: 1}, 1, 1999998, api.Running{Volume: most, Rest: 999999}},
	} {
		expectAdd(t, x.r, x.gross, x.factor, x.want, api.OK)
	}
}

// P5.3: any sums by exact arithmetic: the millionths before and behind differ by gross factor.
func TestAddByDefinition(t *testing.T) {
	r := rand.New(rand.NewSource(9))
	limits := 0
	for range 50000 {
		sum := api.Running{Volume: anyVolume(r), Rest: r.Intn(1000000)}
		gross, factor := anyVolume(r), anyFactor(r)
		all := times(sum.Volume, 1000000)
		all.Add(all, big.NewInt(int64(sum.Rest))).Add(all, times(gross, factor))
		volume, rest := new(big.Int).DivMod(all, big.NewInt(1000000), new(big.Int))
		want, wantE := api.Running{Volume: int(volume.Int64()), Rest: int(rest.Int64())}, api.OK
		if want.Volume > most {
			want, wantE = api.Running{}, api.ErrLimit
			limits++
		}
		expectAdd(t, sum, gross, factor, want, wantE)
	}
	if limits == 0 {
		t.Errorf("no sum was too great")
	}
}

// P5.3: a volume that is added in parts gives the same sum as the whole.
func TestAddInParts(t *testing.T) {
	r := rand.New(rand.NewSource(10))
	for range 2000 {
		start := api.Running{Volume: anyVolume(r) / 4, Rest: r.Intn(1000000)}
		factor, whole, parts := anyFactor(r), 0, start
		for range 1 + r.Intn(20) {
			part := anyVolume(r) / 64
			whole += part
			next, e := Add(parts, part, factor)
			if e != api.OK {
				t.Fatalf("Add(%v, %d, %d): error %d", parts, part, factor, e)
			}
			parts = next
		}
		expectAdd(t, start, whole, factor, parts, api.OK)
	}
}

// P5.3: the errors, each alone, at the ends of the ranges, and in their order.
func TestAddErrors(t *testing.T) {
	for _, r := range []api.Running{
		{Volume: -1}, {Volume: most + 1}, {Rest: -1}, {Rest: 1000000}, {Volume: most, Rest: 1000000},
		{Volume: -1, Rest: 1000000}, {Volume: math.MinInt}, {Volume: math.MaxInt}, {Rest: math.MinInt}, {Rest: math.MaxInt},
		{Volume: math.MaxInt, Rest: math.MaxInt},
	} {
		expectAdd(t, r, 0, 1, api.Running{}, api.ErrInvalid)
		expectAdd(t, r, 1000, 995667, api.Running{}, api.ErrInvalid)
		expectAdd(t, r, most, 2000000, api.Running{}, api.ErrInvalid)
		expectAdd(t, r, -1, 0, api.Running{}, api.ErrInvalid)
	}
	for _, x := range wrongPairs {
		for _, r := range []api.Running{{}, {Volume: most, Rest: 999999}} {
			expectAdd(t, r, x[0], x[1], api.Running{}, api.ErrRange)
		}
	}
	for _, x := range []struct {
		r             api.Running
		gross, factor int
	}{
		{api.Running{Volume: most}, 1, 1000000},
		{api.Running{Volume: most, Rest: 999999}, 1, 1},
		{api.Running{Volume: most, Rest: 5}, 1, 999995},
		{api.Running{Volume: most - 1, Rest: 2}, 1, 1999998},
		{api.Running{Volume: 1}, most, 1000000},
		{api.Running{}, most, 1000001},
		{api.Running{}, most, 2000000},
		{api.Running{}, most/2 + 1, 2000000},
		{api.Running{Volume: most, Rest: 999999}, most, 2000000},
	} {
		expectAdd(t, x.r, x.gross, x.factor, api.Running{}, api.ErrLimit)
	}
}
