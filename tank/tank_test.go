package tank

import (
	"math"
	"math/big"
	"math/rand"
	"slices"
	"strings"
	"testing"

	"batchline/api"
)

const (
	maxLevel  = api.MaxLevel
	maxVolume = api.MaxVolume
)

// example is the tank of the chapter's examples.
func example() api.Tank {
	return api.Tank{Name: "tank-7", Straps: []api.Strap{{Level: 0, Volume: 0}, {Level: 10, Volume: 100}, {Level: 20, Volume: 250}}, Low: 2, High: 18}
}

// raised is a tank whose straps do not begin at 0: the volumes grow by less, and by more, than a litre a millimetre.
func raised() api.Tank {
	return api.Tank{Name: "a", Straps: []api.Strap{{Level: 5, Volume: 7}, {Level: 12, Volume: 10}, {Level: 13, Volume: 40}, {Level: 20, Volume: 41}}, Low: 6, High: 19}
}

// greatest is a tank with the ends of all ranges.
func greatest() api.Tank {
	return api.Tank{Name: "a", Straps: []api.Strap{{}, {Level: maxLevel, Volume: maxVolume}}, High: maxLevel}
}

// many is a valid tank with n straps.
func many(n int) api.Tank {
	t := api.Tank{Name: "a", Low: 1, High: 2}
	for i := range n {
		t.Straps = append(t.Straps, api.Strap{Level: 3 * i, Volume: 5*i*i + i})
	}
	return t
}

// named is the example with another name.
func named(name string) api.Tank {
	t := example()
	t.Name = name
	return t
}

// used is the example, used from low to high.
func used(low, high int) api.Tank {
	t := example()
	t.Low, t.High = low, high
	return t
}

// strapped is a tank with these straps, used from the first to the last one.
func strapped(straps ...api.Strap) api.Tank {
	t := api.Tank{Name: "a", Straps: straps}
	if len(straps) > 0 {
		t.Low, t.High = straps[0].Level, straps[len(straps)-1].Level
	}
	return t
}

// lowest and highest are the ends of a tank.
func lowest(t api.Tank) api.Strap  { return t.Straps[0] }
func highest(t api.Tank) api.Strap { return t.Straps[len(t.Straps)-1] }

// expectResult checks both results of a function.
func expectResult(t *testing.T, name string, f func(api.Tank, int) (int, api.Errno), tank api.Tank, n, want int, wantE api.Errno) {
	t.Helper()
	if got, e := f(tank, n); got != want || e != wantE {
		t.Errorf("%s(%v, %d) = %d, %d, want %d, %d", name, tank, n, got, e, want, wantE)
	}
}

func expectVolume(t *testing.T, tank api.Tank, level, want int, e api.Errno) {
	t.Helper()
	expectResult(t, "Volume", Volume, tank, level, want, e)
}

func expectLevel(t *testing.T, tank api.Tank, volume, want int, e api.Errno) {
	t.Helper()
	expectResult(t, "Level", Level, tank, volume, want, e)
}

func expectRoom(t *testing.T, tank api.Tank, level, want int, e api.Errno) {
	t.Helper()
	expectResult(t, "Room", Room, tank, level, want, e)
}

func expectAvailable(t *testing.T, tank api.Tank, level, want int, e api.Errno) {
	t.Helper()
	expectResult(t, "Available", Available, tank, level, want, e)
}

// expectValid checks Valid of a tank that is valid.
func expectValid(t *testing.T, tank api.Tank) {
	t.Helper()
	if !Valid(tank) {
		t.Errorf("Valid(%v) = false", tank)
	}
}

// anyNumbers are levels and volumes in and out of all tanks.
var anyNumbers = []int{math.MinInt, -1, 0, 1, 5, 10, 100, maxLevel, maxLevel + 1, maxVolume, maxVolume + 1, math.MaxInt}

// expectNone checks that a tank is not valid, and that this comes before each error of a level or a volume.
func expectNone(t *testing.T, tank api.Tank) {
	t.Helper()
	if Valid(tank) {
		t.Errorf("Valid(%v) = true", tank)
	}
	for _, n := range anyNumbers {
		expectVolume(t, tank, n, 0, api.ErrInvalid)
		expectLevel(t, tank, n, 0, api.ErrInvalid)
		expectRoom(t, tank, n, 0, api.ErrInvalid)
		expectAvailable(t, tank, n, 0, api.ErrInvalid)
	}
}

// P6.1: names, and what is none.
func TestValidNames(t *testing.T) {
	for _, name := range []string{"a", "tank-7", "z-", "abcdefghijkl"} {
		expectValid(t, named(name))
	}
	for _, name := range []string{"", "abcdefghijklm", "7a", "-a", "Tank", "a b", "a_b", "a\n", "#a", "é", strings.Repeat("a", 1000)} {
		expectNone(t, named(name))
	}
}

// P6.1: how many straps a tank has.
func TestValidNumberOfStraps(t *testing.T) {
	for n := 2; n <= api.MaxStraps; n++ {
		expectValid(t, many(n))
	}
	for _, n := range []int{0, 1, api.MaxStraps + 1, 1000} {
		expectNone(t, many(n))
	}
	expectNone(t, api.Tank{})
	expectNone(t, strapped(slices.Repeat([]api.Strap{{Level: 1, Volume: 1}}, 2)...))
	expectNone(t, api.Tank{Name: "a", Straps: []api.Strap{{Level: 3, Volume: 3}}, Low: 3, High: 3})
}

// P6.1: levels and volumes at the ends of their ranges, and beyond them.
func TestValidRanges(t *testing.T) {
	for _, l := range [][]api.Strap{
		{{Level: 0, Volume: 0}, {Level: 1, Volume: 1}},
		{{Level: 0, Volume: 0}, {Level: maxLevel, Volume: maxVolume}},
		{{Level: maxLevel - 1, Volume: maxVolume - 1}, {Level: maxLevel, Volume: maxVolume}},
		{{Level: 0, Volume: maxVolume - 1}, {Level: 1, Volume: maxVolume}},
		{{Level: maxLevel - 1, Volume: 0}, {Level: maxLevel, Volume: 1}},
	} {
		expectValid(t, strapped(l...))
	}
	for _, l := range [][]api.Strap{
		{{Level: -1, Volume: 0}, {Level: 1, Volume: 1}},
		{{Level: 0, Volume: -1}, {Level: 1, Volume: 1}},
		{{Level: -2, Volume: 0}, {Level: -1, Volume: 1}},
		{{Level: 0, Volume: -2}, {Level: 1, Volume: -1}},
		{{Level: 0, Volume: 0}, {Level: maxLevel + 1, Volume: 1}},
		{{Level: 0, Volume: 0}, {Level: 1, Volume: maxVolume + 1}},
		{{Level: maxLevel + 1, Volume: 0}, {Level: maxLevel + 2, Volume: 1}},
		{{Level: math.MinInt, Volume: 0}, {Level: 1, Volume: 1}},
		{{Level: 0, Volume: math.MinInt}, {Level: 1, Volume: 1}},
		{{Level: 0, Volume: 0}, {Level: math.MaxInt, Volume: 1}},
		{{Level: 0, Volume: 0}, {Level: 1, Volume: math.MaxInt}},
		{{Level: math.MinInt, Volume: math.MinInt}, {Level: math.MaxInt, Volume: math.MaxInt}},
		{{Level: 0, Volume: 0}, {Level: 1, Volume: 1}, {Level: maxLevel + 1, Volume: 2}},
	} {
		expectNone(t, strapped(l...))
	}
}

// P6.1: straps that do not ascend, in levels or in volumes, at each place.
func TestValidAscent(t *testing.T) {
	for _, n := range []int{2, 3, 7, api.MaxStraps} {
		for i := 1; i < n; i++ {
			for _, less := range []int{0, 1, 100} {
				tank := many(n)
				tank.Straps[i].Level = tank.Straps[i-1].Level - less
				expectNone(t, tank)
				tank = many(n)
				tank.Straps[i].Volume = tank.Straps[i-1].Volume - less
				expectNone(t, tank)
			}
			tank := many(n)
			tank.Straps[i-1], tank.Straps[i] = tank.Straps[i], tank.Straps[i-1]
			expectNone(t, tank)
		}
		tank := many(n)
		slices.Reverse(tank.Straps)
		expectNone(t, tank)
	}
	// The least steps are enough.
	expectValid(t, strapped(api.Strap{Level: 4, Volume: 9}, api.Strap{Level: 5, Volume: 10}, api.Strap{Level: 6, Volume: 11}))
}

// P6.1: Low and High, at the ends of the straps and at each other.
func TestValidUse(t *testing.T) {
	for low := -2; low <= 22; low++ {
		for high := -2; high <= 22; high++ {
			if got, want := Valid(used(low, high)), 0 <= low && low < high && high <= 20; got != want {
				t.Errorf("Valid with Low %d and High %d = %v", low, high, got)
			}
		}
	}
	for _, x := range [][2]int{{-1, 18}, {2, 21}, {18, 2}, {2, 2}, {20, 20}, {0, 0}, {2, 1}, {math.MinInt, 18}, {2, math.MaxInt}, {math.MaxInt, math.MinInt}, {math.MinInt, math.MaxInt}} {
		expectNone(t, used(x[0], x[1]))
	}
	for low := 3; low <= 22; low++ {
		for high := 3; high <= 22; high++ {
			tank := raised()
			tank.Low, tank.High = low, high
			if got, want := Valid(tank), 5 <= low && low < high && high <= 20; got != want {
				t.Errorf("Valid(%v) = %v", tank, got)
			}
		}
	}
}

// P6.1: the examples of the chapter, each level of some tanks, and the errors beyond their ends.
func TestVolumeExamples(t *testing.T) {
	for _, x := range []struct {
		tank api.Tank
		from int
		want []int
	}{
		{example(), 0, []int{0, 10, 20, 30, 40, 50, 60, 70, 80, 90, 100, 115, 130, 145, 160, 175, 190, 205, 220, 235, 250}},
		{raised(), 5, []int{7, 7, 7, 8, 8, 9, 9, 10, 40, 40, 40, 40, 40, 40, 40, 41}},
		{strapped(api.Strap{Level: 3, Volume: 8}, api.Strap{Level: 4, Volume: 9}), 3, []int{8, 9}},
		{strapped(api.Strap{}, api.Strap{Level: 3, Volume: 11}), 0, []int{0, 3, 7, 11}},
	} {
		for i, v := range x.want {
			expectVolume(t, x.tank, x.from+i, v, api.OK)
		}
		for _, level := range []int{x.from - 1, x.from + len(x.want), -1, maxLevel, maxLevel + 1, math.MinInt, math.MaxInt} {
			expectVolume(t, x.tank, level, 0, api.ErrLevel)
		}
	}
}

// P6.1: the greatest levels and volumes.
func TestVolumeOfGreatest(t *testing.T) {
	for _, x := range [][2]int{{0, 0}, {1, 1 << 20}, {12345, 12345 << 20}, {maxLevel - 1, (maxLevel - 1) << 20}, {maxLevel, maxVolume}} {
		expectVolume(t, greatest(), x[0], x[1], api.OK)
	}
	// One litre less: the quotients are rounded down.
	tank := strapped(api.Strap{}, api.Strap{Level: maxLevel, Volume: maxVolume - 1})
	for _, x := range [][2]int{{0, 0}, {1, 1<<20 - 1}, {2, 2<<20 - 1}, {maxLevel - 1, (maxLevel-1)<<20 - 1}, {maxLevel, maxVolume - 1}} {
		expectVolume(t, tank, x[0], x[1], api.OK)
	}
	// One litre in all: it comes at the last level.
	flat := strapped(api.Strap{Volume: maxVolume - 1}, api.Strap{Level: maxLevel, Volume: maxVolume})
	for _, x := range [][2]int{{0, maxVolume - 1}, {1, maxVolume - 1}, {maxLevel - 1, maxVolume - 1}, {maxLevel, maxVolume}} {
		expectVolume(t, flat, x[0], x[1], api.OK)
	}
	for _, level := range []int{-1, maxLevel + 1, math.MinInt, math.MaxInt} {
		expectVolume(t, greatest(), level, 0, api.ErrLevel)
		expectVolume(t, flat, level, 0, api.ErrLevel)
	}
}

// P6.2: the example of the chapter, each volume of some tanks, and the errors beyond their ends.
func TestLevelExamples(t *testing.T) {
	for _, x := range []struct {
		tank api.Tank
		from int
		want []int
	}{
		{raised(), 7, slices.Concat([]int{5, 8, 10, 12}, slices.Repeat([]int{13}, 30), []int{20})},
		{strapped(api.Strap{Level: 3, Volume: 8}, api.Strap{Level: 4, Volume: 9}), 8, []int{3, 4}},
		{strapped(api.Strap{}, api.Strap{Level: 3, Volume: 11}), 0, []int{0, 1, 1, 1, 2, 2, 2, 2, 3, 3, 3, 3}},
	} {
		for i, level := range x.want {
			expectLevel(t, x.tank, x.from+i, level, api.OK)
		}
		for _, v := range []int{x.from - 1, x.from + len(x.want), -1, maxVolume, maxVolume + 1, math.MinInt, math.MaxInt} {
			expectLevel(t, x.tank, v, 0, api.ErrLevel)
		}
	}
	for _, x := range [][2]int{{0, 0}, {1, 1}, {10, 1}, {11, 2}, {90, 9}, {91, 10}, {99, 10}, {100, 10}, {101, 11}, {115, 11}, {116, 12}, {235, 19}, {236, 20}, {250, 20}} {
		expectLevel(t, example(), x[0], x[1], api.OK)
	}
	for _, v := range []int{-1, 251, maxVolume, math.MinInt, math.MaxInt} {
		expectLevel(t, example(), v, 0, api.ErrLevel)
	}
}

// P6.2: the greatest levels and volumes.
func TestLevelOfGreatest(t *testing.T) {
	for _, x := range [][2]int{{0, 0}, {1, 1}, {1 << 20, 1}, {1<<20 + 1, 2}, {maxVolume - 1<<20, maxLevel - 1}, {maxVolume - 1<<20 + 1, maxLevel}, {maxVolume - 1, maxLevel}, {maxVolume, maxLevel}} {
		expectLevel(t, greatest(), x[0], x[1], api.OK)
	}
	flat := strapped(api.Strap{Volume: maxVolume - 1}, api.Strap{Level: maxLevel, Volume: maxVolume})
	expectLevel(t, flat, maxVolume-1, 0, api.OK)
	expectLevel(t, flat, maxVolume, maxLevel, api.OK)
	for _, v := range []int{-1, maxVolume + 1, math.MinInt, math.MaxInt} {
		expectLevel(t, greatest(), v, 0, api.ErrLevel)
	}
	expectLevel(t, flat, maxVolume-2, 0, api.ErrLevel)
}

// P6.3: the examples of the chapter, levels at Low and High and beyond them, and the errors.
func TestRoomAndAvailable(t *testing.T) {
	for _, x := range []struct {
		tank                   api.Tank
		level, room, available int
	}{
		{example(), 13, 75, 125},
		{example(), 0, 220, 0},
		{example(), 1, 210, 0},
		{example(), 2, 200, 0},
		{example(), 3, 190, 10},
		{example(), 10, 120, 80},
		{example(), 17, 15, 185},
		{example(), 18, 0, 200},
		{example(), 19, 0, 215},
		{example(), 20, 0, 230},
		{used(0, 20), 0, 250, 0},
		{used(0, 20), 20, 0, 250},
		{used(9, 10), 9, 10, 0},
		{used(9, 10), 10, 0, 10},
		{used(0, 1), 20, 0, 250},
		{used(19, 20), 0, 250, 0},
		{raised(), 5, 33, 0},
		{raised(), 6, 33, 0},
		{raised(), 8, 32, 1},
		{raised(), 13, 0, 33},
		{raised(), 19, 0, 33},
		{raised(), 20, 0, 34},
		{greatest(), 0, maxVolume, 0},
		{greatest(), 1, maxVolume - 1<<20, 1 << 20},
		{greatest(), maxLevel, 0, maxVolume},
	} {
		expectRoom(t, x.tank, x.level, x.room, api.OK)
		expectAvailable(t, x.tank, x.level, x.available, api.OK)
	}
	for _, tank := range []api.Tank{example(), raised(), greatest(), used(0, 1), used(19, 20)} {
		for _, level := range []int{lowest(tank).Level - 1, highest(tank).Level + 1, math.MinInt, math.MaxInt} {
			expectRoom(t, tank, level, 0, api.ErrLevel)
			expectAvailable(t, tank, level, 0, api.ErrLevel)
		}
	}
}

// volumeOf returns the volume at a level of a valid tank, by its definition. At a strap, both pairs of neighbours have to give the same one.
func volumeOf(t *testing.T, tank api.Tank, level int) int {
	found := -1
	for i, b := range tank.Straps[1:] {
		a := tank.Straps[i]
		if level < a.Level || level > b.Level {
			continue
		}
		product := new(big.Int).Mul(big.NewInt(int64(b.Volume-a.Volume)), big.NewInt(int64(level-a.Level)))
		v := a.Volume + int(product.Div(product, big.NewInt(int64(b.Level-a.Level))).Int64())
		if found >= 0 && found != v {
			t.Fatalf("%v has two volumes at %d", tank, level)
		}
		found = v
	}
	return found
}

// anyAscent returns n ascending numbers from 0 to most.
func anyAscent(r *rand.Rand, n, most int) []int {
	var l []int
	for len(l) < n {
		l = append(l, r.Intn(most+1))
		slices.Sort(l)
		l = slices.Compact(l)
	}
	return l
}

// anyTank is a valid tank, with levels and volumes of at most these.
func anyTank(r *rand.Rand, mostLevel, mostVolume int) api.Tank {
	n := 2 + r.Intn(api.MaxStraps-1)
	levels, volumes := anyAscent(r, n, mostLevel), anyAscent(r, n, mostVolume)
	tank := api.Tank{Name: "a"}
	for i := range n {
		tank.Straps = append(tank.Straps, api.Strap{Level: levels[i], Volume: volumes[i]})
	}
	span := levels[n-1] - levels[0]
	tank.Low = levels[0] + r.Intn(span)
	tank.High = tank.Low + 1 + r.Intn(levels[n-1]-tank.Low)
	return tank
}

// P6.1, P6.2, P6.3: each level and each volume of many small tanks, by the definitions.
func TestEachLevelAndVolume(t *testing.T) {
	r := rand.New(rand.NewSource(11))
	for range 1500 {
		tank := anyTank(r, 16+r.Intn(60), 16+r.Intn(200))
		expectValid(t, tank)
		high, low := volumeOf(t, tank, tank.High), volumeOf(t, tank, tank.Low)
		next := lowest(tank).Volume // the least volume that no level so far has
		for level := lowest(tank).Level; level <= highest(tank).Level; level++ {
			want := volumeOf(t, tank, level)
			expectVolume(t, tank, level, want, api.OK)
			for ; next <= want; next++ {
				expectLevel(t, tank, next, level, api.OK)
			}
			room, available := high-want, want-low
			if level > tank.High {
				room = 0
			}
			if level < tank.Low {
				available = 0
			}
			expectRoom(t, tank, level, room, api.OK)
			expectAvailable(t, tank, level, available, api.OK)
		}
		if next != highest(tank).Volume+1 {
			t.Fatalf("%v ends at %d", tank, next-1)
		}
	}
}

// P6.1, P6.2, P6.3: any levels and volumes of large tanks, by the definitions and the consequences.
func TestLargeTanks(t *testing.T) {
	r := rand.New(rand.NewSource(12))
	for range 2000 {
		tank := anyTank(r, maxLevel>>r.Intn(12), maxVolume>>r.Intn(30))
		bottom, top := lowest(tank), highest(tank)
		for range 20 {
			level := bottom.Level + r.Intn(top.Level-bottom.Level+1)
			expectVolume(t, tank, level, volumeOf(t, tank, level), api.OK)
			v := bottom.Volume + r.Intn(top.Volume-bottom.Volume+1)
			got, e := Level(tank, v)
			if e != api.OK || volumeOf(t, tank, got) < v || got > bottom.Level && volumeOf(t, tank, got-1) >= v {
				t.Fatalf("Level(%v, %d) = %d, %d", tank, v, got, e)
			}
			within := tank.Low + r.Intn(tank.High-tank.Low+1)
			room, roomE := Room(tank, within)
			available, availableE := Available(tank, within)
			if whole := volumeOf(t, tank, tank.High) - volumeOf(t, tank, tank.Low); roomE != api.OK || availableE != api.OK || room+available != whole {
				t.Fatalf("Room and Available of %v at %d are %d and %d", tank, within, room, available)
			}
		}
		for _, s := range tank.Straps {
			expectVolume(t, tank, s.Level, s.Volume, api.OK)
		}
	}
}

// P6.1, P6.2, P6.3: a further strap on the line between two others changes nothing.
func TestFurtherStrap(t *testing.T) {
	for _, further := range []api.Strap{{Level: 1, Volume: 10}, {Level: 7, Volume: 70}, {Level: 12, Volume: 130}, {Level: 19, Volume: 235}} {
		more := example()
		more.Straps = append(more.Straps, further)
		slices.SortFunc(more.Straps, func(a, b api.Strap) int { return a.Level - b.Level })
		for n := -1; n <= 252; n++ {
			for name, f := range map[string]func(api.Tank, int) (int, api.Errno){"Volume": Volume, "Level": Level, "Room": Room, "Available": Available} {
				want, e := f(example(), n)
				expectResult(t, name, f, more, n, want, e)
			}
		}
	}
}

// R2: no function changes the straps or the capacity behind them.
func TestMemory(t *testing.T) {
	whole := many(8).Straps
	tank := strapped(whole[1:4]...)
	for n := -1; n < 60; n++ {
		Volume(tank, n)
		Level(tank, n)
		Room(tank, n)
		Available(tank, n)
	}
	slices.Reverse(whole)
	if Valid(tank) {
		t.Errorf("Valid(%v) = true", tank)
	}
	slices.Reverse(whole)
	if !Valid(tank) || !slices.Equal(whole, many(8).Straps) {
		t.Errorf("the straps became %v", whole)
	}
}
