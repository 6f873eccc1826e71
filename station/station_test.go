package station

import (
	"math"
	"strings"
	"testing"

	"batchline/api"
)

// pumping is a station with this Head and Fall.
func pumping(head, fall int) api.Station {
	return api.Station{Name: "p", Node: 3, Head: head, Fall: fall, Suction: 100000}
}

// expectBoost checks a result of Boost.
func expectBoost(t *testing.T, s api.Station, rate, want int, wantErr api.Errno) {
	t.Helper()
	if got, e := Boost(s, rate); got != want || e != wantErr {
		t.Errorf("Boost of %+v at %d = %d, %d, want %d, %d", s, rate, got, e, want, wantErr)
	}
}

// expectRaise checks a result of Raise.
func expectRaise(t *testing.T, s api.Station, b api.Bounds, rate int, want api.Bounds, wantErr api.Errno) {
	t.Helper()
	if got, e := Raise(s, b, rate); got != want || e != wantErr {
		t.Errorf("Raise of %+v by %+v at %d = %+v, %d, want %+v, %d", b, s, rate, got, e, want, wantErr)
	}
}

// invalid is stations of which each one breaks one sentence of P20.1, in turn with the nearest ones that break none.
func invalid() (broken, sound []api.Station) {
	change := func(into *[]api.Station, with func(s *api.Station)) {
		s := pumping(500000, 200)
		with(&s)
		*into = append(*into, s)
	}
	for _, name := range []string{"", "P", "7", "-", "p q", "p_", "pump.", "ä", "p\x00", strings.Repeat("a", api.MaxName+1), strings.Repeat("a", 100000)} {
		change(&broken, func(s *api.Station) { s.Name = name })
	}
	for _, name := range []string{"p", "z", "pump-7", "node", "a-", "a0", strings.Repeat("a", api.MaxName)} {
		change(&sound, func(s *api.Station) { s.Name = name })
	}
	fields := []struct {
		of   func(s *api.Station) *int
		most int
	}{
		{func(s *api.Station) *int { return &s.Node }, api.MaxNodes - 1},
		{func(s *api.Station) *int { return &s.Head }, api.MaxPressure},
		{func(s *api.Station) *int { return &s.Fall }, 100000},
		{func(s *api.Station) *int { return &s.Suction }, api.MaxPressure},
	}
	for _, f := range fields {
		for _, v := range []int{-1, -5, math.MinInt, f.most + 1, f.most + 100, math.MaxInt} {
			change(&broken, func(s *api.Station) { *f.of(s) = v })
		}
		for _, v := range []int{0, 1, f.most / 2, f.most - 1, f.most} {
			change(&sound, func(s *api.Station) { *f.of(s) = v })
		}
	}
	return broken, sound
}

// P20.1: each range with its ends, and names.
func TestValid(t *testing.T) {
	broken, sound := invalid()
	for _, s := range broken {
		if Valid(s) {
			t.Errorf("%+v is valid", s)
		}
	}
	for _, s := range sound {
		if !Valid(s) {
			t.Errorf("%+v is not valid", s)
		}
	}
	least := api.Station{Name: "a"}
	most := api.Station{Name: "abcdefghijkl", Node: api.MaxNodes - 1, Head: api.MaxPressure, Fall: 100000, Suction: api.MaxPressure}
	if !Valid(least) || !Valid(most) || Valid(api.Station{}) {
		t.Errorf("%t, %t, %t", Valid(least), Valid(most), Valid(api.Station{}))
	}
}

// P20.2: the examples of the chapter, quotients that are rounded, and the ends of all ranges.
func TestBoost(t *testing.T) {
	for _, c := range []struct{ head, fall, rate, want int }{
		{500000, 200, 0, 500000},
		{500000, 200, 100, 498000},
		{500000, 200, 1000, 300000},
		{500000, 200, 2000, 0},
		{500000, 200, 1581, 500000 - 499912}, // 499912.2
		{500000, 200, 1582, 0},               // 500544.8
		{500000, 0, 32000, 500000},
		{500000, 1, 31, 500000},     // 0.961
		{500000, 1, 32, 499999},     // 1.024
		{500000, 999, 1, 500000},    // 0.999
		{500000, 1000, 1, 499999},   // 1
		{500000, 1999, 1, 499999},   // 1.999
		{500000, 2000, 1, 499998},   // 2
		{500000, 100000, 1, 499900}, // 100
		{7, 1000, 2, 3},
		{7, 1999, 2, 0},  // 7.996 is 7
		{8, 1999, 2, 1},  // 7.996 is 7
		{7, 2000, 2, 0},  // 8
		{4, 1000, 2, 0},  // 4
		{4, 999, 2, 1},   // 3.996 is 3
		{0, 999, 1, 0},   // 0.999 is 0
		{0, 1000, 1, 0},  // 1
		{0, 0, 32000, 0}, // no head at all
		{api.MaxPressure, 100000, 1000, 0},
		{api.MaxPressure, 100000, 999, 199900},
		{api.MaxPressure, 100000, 1001, 0},
		{api.MaxPressure, 100000, 32000, 0},
		{api.MaxPressure, 1, 32000, 98976000},
		{api.MaxPressure, 97, 32000, 672000},
		{api.MaxPressure, 98, 32000, 0},
		{api.MaxPressure, 97, 31999, 678208}, // 99321792.097
		{api.MaxPressure, 0, 32000, api.MaxPressure},
	} {
		expectBoost(t, pumping(c.head, c.fall), c.rate, c.want, api.OK)
	}
}

// P20.2: neither the name nor the node nor the Suction counts.
func TestBoostOthers(t *testing.T) {
	_, sound := invalid()
	for _, s := range sound {
		s.Head, s.Fall = 500000, 200
		expectBoost(t, s, 100, 498000, api.OK)
		expectRaise(t, s, api.Bounds{Low: 7, High: 9}, 100, api.Bounds{Low: 498007, High: 498009}, api.OK)
	}
}

// P20.2: stations that are not valid come ahead of rates that are out of range.
func TestBoostErrors(t *testing.T) {
	broken, sound := invalid()
	for _, rate := range []int{-1, -100, math.MinInt, 32001, 40000, 1 << 40, math.MaxInt} {
		for _, s := range broken {
			expectBoost(t, s, rate, 0, api.ErrInvalid)
		}
		for _, s := range sound {
			expectBoost(t, s, rate, 0, api.ErrRange)
		}
	}
	for _, rate := range []int{0, 1, 1000, 32000} {
		for _, s := range broken {
			expectBoost(t, s, rate, 0, api.ErrInvalid)
		}
		for _, s := range sound {
			if _, e := Boost(s, rate); e != api.OK {
				t.Errorf("Boost of %+v at %d: %d", s, rate, e)
			}
		}
	}
}

// P20.3: both bounds grow by the boost, to the ends of their range and beyond.
func TestRaise(t *testing.T) {
	const far = 1 << 50
	for _, c := range []struct {
		head, fall, rate int
		in, want         api.Bounds
	}{
		{500000, 200, 100, api.Bounds{}, api.Bounds{Low: 498000, High: 498000}},
		{500000, 200, 1000, api.Bounds{Low: -7, High: 5}, api.Bounds{Low: 299993, High: 300005}},
		{500000, 200, 2000, api.Bounds{Low: -7, High: 5}, api.Bounds{Low: -7, High: 5}},
		{500000, 200, 0, api.Bounds{Low: -600000, High: -500000}, api.Bounds{Low: -100000, High: 0}},
		{500000, 200, 0, api.Bounds{Low: -far, High: far}, api.Bounds{Low: -far + 500000, High: far + 500000}},
		{500000, 200, 0, api.Bounds{Low: far, High: far}, api.Bounds{Low: far + 500000, High: far + 500000}},
		{500000, 200, 0, api.Bounds{Low: -far, High: -far}, api.Bounds{Low: -far + 500000, High: -far + 500000}},
		{api.MaxPressure, 0, 32000, api.Bounds{Low: far - 1, High: far}, api.Bounds{Low: far - 1 + api.MaxPressure, High: far + api.MaxPressure}},
		{0, 0, 0, api.Bounds{Low: 1, High: 2}, api.Bounds{Low: 1, High: 2}},
	} {
		expectRaise(t, pumping(c.head, c.fall), c.in, c.rate, c.want, api.OK)
	}
}

// P20.3: the errors of Boost come ahead of those of the bounds, and with each error the bounds are zero.
func TestRaiseErrors(t *testing.T) {
	const far = 1 << 50
	fine := []api.Bounds{{}, {Low: -far, High: far}, {Low: 5, High: 5}}
	wrong := []api.Bounds{
		{Low: 1}, {High: -1}, {Low: 6, High: 5}, {Low: far, High: -far},
		{Low: -far - 1}, {Low: -far - 1, High: -far - 1}, {Low: -far - 1, High: far + 1},
		{High: far + 1}, {Low: far + 1, High: far + 1}, {Low: far + 1, High: far}, {Low: -far, High: -far - 1},
		{Low: math.MinInt, High: math.MaxInt}, {Low: math.MaxInt, High: math.MinInt},
		{Low: math.MinInt}, {High: math.MaxInt}, {Low: math.MinInt, High: math.MinInt}, {Low: math.MaxInt, High: math.MaxInt},
	}
	broken, sound := invalid()
	for _, rate := range []int{-1, math.MinInt, 0, 100, 32000, 32001, math.MaxInt} {
		for _, s := range broken {
			for _, b := range append(fine, wrong...) {
				expectRaise(t, s, b, rate, api.Bounds{}, api.ErrInvalid)
			}
		}
		for _, s := range sound {
			for _, b := range wrong {
				expectRaise(t, s, b, rate, api.Bounds{}, api.ErrRange)
			}
			for _, b := range fine {
				_, e := Raise(s, b, rate)
				if inRange := 0 <= rate && rate <= 32000; e == api.OK != inRange || !inRange && e != api.ErrRange {
					t.Errorf("Raise of %+v by %+v at %d: %d", b, s, rate, e)
				}
				if e != api.OK {
					expectRaise(t, s, b, rate, api.Bounds{}, e)
				}
			}
		}
	}
}
