package valve

import (
	"math"
	"testing"

	"batchline/api"
)

// bools are the two values of a bool.
var bools = []bool{false, true}

// each calls f with every valid valve.
func each(f func(v api.Valve)) {
	for travel := 1; travel <= api.MaxTravel; travel++ {
		for open := 0; open <= travel; open++ {
			for _, want := range bools {
				for _, stuck := range bools {
					f(api.Valve{Travel: travel, Open: open, Want: want, Stuck: stuck})
				}
			}
		}
	}
}

// invalid returns valves that are not valid, with each value of Want and Stuck.
func invalid() []api.Valve {
	var l []api.Valve
	for _, x := range []struct{ travel, open int }{
		{0, 0}, {0, 1}, {0, -1}, {-1, 0}, {-1, -1}, {-5, -5}, {-5, -10}, {-5, 3},
		{61, 0}, {61, 61}, {61, 30}, {61, -1}, {61, 62}, {1000, 10}, {1 << 32, 0}, {1<<32 + 5, 3},
		{1, -1}, {1, 2}, {3, 4}, {3, -1}, {3, -3}, {3, 60}, {60, 61}, {60, -1}, {60, 1000}, {60, -1000},
		{3, 1 << 32}, {3, 1<<32 + 1}, {3, -1 << 32}, {-1 << 32, 0},
		{math.MaxInt, 0}, {math.MaxInt, math.MaxInt}, {math.MinInt, 0}, {math.MinInt, math.MinInt},
		{3, math.MaxInt}, {3, math.MinInt}, {0, math.MaxInt}, {0, math.MinInt}, {math.MaxInt, math.MinInt}, {math.MinInt, math.MaxInt},
	} {
		for _, want := range bools {
			for _, stuck := range bools {
				l = append(l, api.Valve{Travel: x.travel, Open: x.open, Want: want, Stuck: stuck})
			}
		}
	}
	return l
}

// expect checks that a call has a valve and an error.
func expect(t *testing.T, name string, v, got api.Valve, e api.Errno, want api.Valve, wantErrno api.Errno) {
	t.Helper()
	if got != want || e != wantErrno {
		t.Errorf("%s of %+v: %+v, %d, want %+v, %d", name, v, got, e, want, wantErrno)
	}
}

// P23.1: Travel is from 1 to MaxTravel, Open from 0 to Travel, whatever Want and Stuck are.
func TestValid(t *testing.T) {
	each(func(v api.Valve) {
		if !Valid(v) {
			t.Errorf("%+v is not valid", v)
		}
	})
	for _, v := range invalid() {
		if Valid(v) {
			t.Errorf("%+v is valid", v)
		}
	}
}

// P23.1: all values of Travel and Open around the ends of their ranges.
func TestValidAround(t *testing.T) {
	for travel := -3; travel <= 64; travel++ {
		for open := -3; open <= 67; open++ {
			v := api.Valve{Travel: travel, Open: open}
			want := travel >= 1 && travel <= 60 && open >= 0 && open <= travel
			if Valid(v) != want {
				t.Errorf("Valid(%+v) = %t", v, !want)
			}
		}
	}
}

// P23.1: a valid valve is open at Travel, closed at 0, and neither in between; Want and Stuck do not matter.
func TestOpenClosed(t *testing.T) {
	each(func(v api.Valve) {
		if Open(v) != (v.Open == v.Travel) || Closed(v) != (v.Open == 0) {
			t.Errorf("%+v: Open = %t, Closed = %t", v, Open(v), Closed(v))
		}
	})
}

// P23.1: a valve that is not valid is neither open nor closed.
func TestOpenClosedInvalid(t *testing.T) {
	for _, v := range invalid() {
		if Open(v) || Closed(v) {
			t.Errorf("%+v: Open = %t, Closed = %t", v, Open(v), Closed(v))
		}
	}
}

// P23.2: the chapter's example.
func TestExample(t *testing.T) {
	v := api.Valve{Travel: 3, Want: true}
	for range 2 {
		next, e := Step(v)
		if e != api.OK {
			t.Fatalf("Step(%+v) has the error %d", v, e)
		}
		v = next
	}
	if want := (api.Valve{Travel: 3, Open: 2, Want: true}); v != want || Left(v) != 1 {
		t.Errorf("%+v, %d left, want %+v, 1", v, Left(v), want)
	}
	passed, e := Pass(api.Valve{Travel: 3, Want: true}, 2)
	expect(t, "Pass by 2", api.Valve{Travel: 3, Want: true}, passed, e, v, api.OK)
}

// P23.2: Command sets Want, and nothing else, of valves that are stuck too.
func TestCommand(t *testing.T) {
	each(func(v api.Valve) {
		for _, open := range bools {
			got, e := Command(v, open)
			expect(t, "Command", v, got, e, api.Valve{Travel: v.Travel, Open: v.Open, Want: open, Stuck: v.Stuck}, api.OK)
		}
	})
}

// P23.2: Step moves a valve by one to where it shall be, not beyond it, and not if it is stuck.
func TestStep(t *testing.T) {
	for _, x := range []struct {
		travel, open int
		want, stuck  bool
		then         int
	}{
		{3, 0, true, false, 1}, {3, 1, true, false, 2}, {3, 2, true, false, 3}, {3, 3, true, false, 3},
		{3, 3, false, false, 2}, {3, 2, false, false, 1}, {3, 1, false, false, 0}, {3, 0, false, false, 0},
		{3, 0, true, true, 0}, {3, 1, true, true, 1}, {3, 2, true, true, 2}, {3, 3, true, true, 3},
		{3, 3, false, true, 3}, {3, 2, false, true, 2}, {3, 1, false, true, 1}, {3, 0, false, true, 0},
		{1, 0, true, false, 1}, {1, 1, true, false, 1}, {1, 1, false, false, 0}, {1, 0, false, false, 0},
		{60, 0, true, false, 1}, {60, 59, true, false, 60}, {60, 60, true, false, 60}, {60, 60, false, false, 59}, {60, 1, false, false, 0},
	} {
		v := api.Valve{Travel: x.travel, Open: x.open, Want: x.want, Stuck: x.stuck}
		want := v
		want.Open = x.then
		got, e := Step(v)
		expect(t, "Step", v, got, e, want, api.OK)
	}
}

// P23.2: Step of every valve, by the definition.
func TestStepAll(t *testing.T) {
	each(func(v api.Valve) {
		want := v
		if !v.Stuck {
			if v.Want {
				want.Open = min(v.Open+1, v.Travel)
			} else {
				want.Open = max(v.Open-1, 0)
			}
		}
		got, e := Step(v)
		expect(t, "Step", v, got, e, want, api.OK)
	})
}

// P23.2: Pass is Step as often as ticks says, for every valve, and up to MaxTicks.
func TestPass(t *testing.T) {
	each(func(v api.Valve) {
		want := v
		for ticks := range api.MaxTravel + 3 {
			got, e := Pass(v, ticks)
			expect(t, "Pass", v, got, e, want, api.OK)
			want, _ = Step(want)
		}
		for _, ticks := range []int{100, api.MaxTicks - 1, api.MaxTicks} {
			got, e := Pass(v, ticks)
			expect(t, "Pass", v, got, e, want, api.OK)
		}
	})
}

// P23.2: two times that pass are one.
func TestPassTwice(t *testing.T) {
	for _, v := range []api.Valve{{Travel: 60, Want: true}, {Travel: 60, Open: 60}, {Travel: 7, Open: 3, Want: true}, {Travel: 7, Open: 3, Stuck: true}} {
		for a := range 70 {
			for b := range 70 {
				first, _ := Pass(v, a)
				got, e := Pass(first, b)
				want, _ := Pass(v, a+b)
				expect(t, "Pass twice", v, got, e, want, api.OK)
			}
		}
	}
}

// P23.2: a valve that is not valid is returned as it is, with ErrValve, for all other arguments.
func TestErrValve(t *testing.T) {
	for _, v := range invalid() {
		for _, open := range bools {
			got, e := Command(v, open)
			expect(t, "Command", v, got, e, v, api.ErrValve)
		}
		got, e := Step(v)
		expect(t, "Step", v, got, e, v, api.ErrValve)
		for _, ticks := range []int{0, 1, 5, 400, 401, -1, math.MinInt, math.MaxInt} {
			got, e := Pass(v, ticks)
			expect(t, "Pass", v, got, e, v, api.ErrValve)
		}
	}
}

// P23.2: ticks that are not from 0 to MaxTicks are ErrRange, with the valve as it is.
func TestErrRange(t *testing.T) {
	each(func(v api.Valve) {
		for _, ticks := range []int{-1, -2, -400, 401, 402, 1 << 32, 1<<32 + 5, -1 << 32, math.MinInt, math.MaxInt} {
			got, e := Pass(v, ticks)
			expect(t, "Pass", v, got, e, v, api.ErrRange)
		}
	})
}

// P23.2: Left of valves on their way, there, stuck, and not valid.
func TestLeft(t *testing.T) {
	for _, x := range []struct {
		travel, open int
		want, stuck  bool
		left         int
	}{
		{3, 0, true, false, 3}, {3, 1, true, false, 2}, {3, 2, true, false, 1}, {3, 3, true, false, 0},
		{3, 3, false, false, 3}, {3, 2, false, false, 2}, {3, 1, false, false, 1}, {3, 0, false, false, 0},
		{3, 0, true, true, -1}, {3, 2, true, true, -1}, {3, 3, true, true, 0},
		{3, 3, false, true, -1}, {3, 1, false, true, -1}, {3, 0, false, true, 0},
		{60, 0, true, false, 60}, {60, 60, false, false, 60}, {60, 60, true, true, 0}, {1, 0, true, false, 1},
	} {
		v := api.Valve{Travel: x.travel, Open: x.open, Want: x.want, Stuck: x.stuck}
		if got := Left(v); got != x.left {
			t.Errorf("Left(%+v) = %d, want %d", v, got, x.left)
		}
	}
	for _, v := range invalid() {
		if got := Left(v); got != -1 {
			t.Errorf("Left(%+v) = %d, want -1", v, got)
		}
	}
}

// P23.2: Left is the number of steps, as they are counted.
func TestLeftCounts(t *testing.T) {
	each(func(v api.Valve) {
		there := func(v api.Valve) bool { return v.Want && Open(v) || !v.Want && Closed(v) }
		want, at := 0, v
		for want <= api.MaxTravel && !there(at) {
			at, _ = Step(at)
			want++
		}
		if !there(at) {
			want = -1
		}
		if got := Left(v); got != want {
			t.Errorf("Left(%+v) = %d, want %d", v, got, want)
		}
	})
}

// P23.1, P23.2: the consequences: a valve that is not stuck is open, or closed, within Travel ticks.
func TestWithinTravel(t *testing.T) {
	each(func(v api.Valve) {
		if v.Stuck {
			return
		}
		for _, open := range bools {
			told, _ := Command(v, open)
			then, _ := Pass(told, v.Travel)
			if open && !Open(then) || !open && !Closed(then) {
				t.Errorf("%+v is %+v after Travel ticks", told, then)
			}
		}
	})
}

// P23.2: the consequences: a command that is taken back costs as many ticks as have gone by.
func TestTakenBack(t *testing.T) {
	for travel := 1; travel <= api.MaxTravel; travel++ {
		for ticks := 0; ticks <= travel; ticks++ {
			for _, open := range bools {
				at := api.Valve{Travel: travel, Want: !open}
				if !open {
					at.Open = travel
				}
				told, _ := Command(at, open)
				then, _ := Pass(told, ticks)
				back, _ := Command(then, !open)
				if Left(back) != ticks {
					t.Errorf("%+v has %d ticks left, want %d", back, Left(back), ticks)
				}
				got, e := Pass(back, ticks)
				expect(t, "Pass back", back, got, e, at, api.OK)
			}
		}
	}
}
