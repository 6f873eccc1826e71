package gradient

import (
	"math"
	"slices"
	"testing"

	"batchline/api"
)

// expectKeeps checks a result of Keeps.
func expectKeeps(t *testing.T, s api.Segment, l []api.Level, vapour, want int, wantErr api.Errno) {
	t.Helper()
	if got, e := Keeps(s, l, vapour); got != want || e != wantErr {
		t.Errorf("Keeps of %v in %+v above %d = %d, %d, want %d, %d", l, s, vapour, got, e, want, wantErr)
	}
}

// limited is a segment with points at these places and with these limits, in turn.
func limited(numbers ...int) api.Segment {
	s := segment(0, points(numbers...))
	for i := range s.Points {
		s.Points[i].Height, s.Points[i].Limit = 10*i, numbers[2*i+1]
	}
	return s
}

// greatest is what High may be at each place of a segment, by going through the places of each section.
func greatest(s api.Segment) []int {
	limits := slices.Repeat([]int{math.MaxInt}, s.Capacity+1)
	for i := range len(s.Points) - 1 {
		for at := s.Points[i].At; at <= s.Points[i+1].At; at++ {
			for _, p := range s.Points[i : i+2] {
				limits[at] = min(limits[at], p.Limit)
			}
		}
	}
	return limits
}

// P19.3: the limits of the points around a place, and at a point those of both sections.
func TestKeepsLimits(t *testing.T) {
	for _, s := range []api.Segment{
		limited(0, 500, 10, 500),
		limited(0, 500, 10, 400),
		limited(0, 400, 10, 500),
		limited(0, 0, 1, 0),
		limited(0, 900, 4, 700, 10, 800),
		limited(0, 900, 4, 800, 10, 700),
		limited(0, 700, 4, 800, 10, 900),
		limited(0, 800, 4, 900, 10, 700),
		limited(0, 700, 4, 900, 10, 800),
		limited(0, 700, 4, 900, 5, 950, 6, 800, 9, 600, 20, api.MaxPressure),
		limited(0, api.MaxPressure, 4, api.MaxPressure, 8, api.MaxPressure, 12, 5),
		limited(0, 5, 1, 4, 2, 3, 3, 9, 4, 9, 5, 0, 6, 9, 7, 9),
	} {
		limits := greatest(s)
		for at, limit := range limits {
			expectKeeps(t, s, levels(at, -9, limit), -9, -1, api.OK)
			expectKeeps(t, s, levels(at, -9, limit+1), -9, at, api.ErrPressure)
			expectKeeps(t, s, levels(at, -9, math.MaxInt), -9, at, api.ErrPressure)
			expectKeeps(t, s, levels(at, -9, math.MinInt), -9, -1, api.OK)
		}
		// All places but one keep it; then two do not, of which the first one counts.
		var all []api.Level
		for at, limit := range limits {
			all = append(all, levels(at, -9, limit)...)
		}
		expectKeeps(t, s, all, -9, -1, api.OK)
		for at := range limits {
			all[at].Bounds.High++
			expectKeeps(t, s, all, -9, at, api.ErrPressure)
			all[s.Capacity].Bounds.Low--
			expectKeeps(t, s, all, -9, at, api.ErrPressure)
			all[s.Capacity].Bounds.Low++
			all[at].Bounds.High--
		}
	}
}

// P19.3: no Low is less than vapour.
func TestKeepsVapour(t *testing.T) {
	s := limited(0, 900, 4, 700, 10, 800)
	for _, vapour := range []int{math.MinInt, -100000, -1, 0, 1, 500, api.MaxPressure, math.MaxInt} {
		l := levels(0, vapour, 5, 3, vapour, 5, 4, vapour, 5, 10, vapour, 5)
		expectKeeps(t, s, l, vapour, -1, api.OK)
		for i := range l {
			if vapour == math.MinInt {
				continue
			}
			l[i].Bounds.Low--
			expectKeeps(t, s, l, vapour, l[i].At, api.ErrPressure)
			expectKeeps(t, s, l[:i], vapour, -1, api.OK)
			expectKeeps(t, s, l[i+1:], vapour, -1, api.OK)
			l[3].Bounds.High = 801
			expectKeeps(t, s, l, vapour, l[i].At, api.ErrPressure)
			l[3].Bounds.High = 5
			l[i].Bounds.Low++
		}
	}
	// Only High is held against limits, and only Low against vapour.
	expectKeeps(t, s, levels(2, 5000, 5, 7, 5000, 5), 100, -1, api.OK)
	expectKeeps(t, s, levels(2, 5000, 5, 7, 5000, 701), 100, 7, api.ErrPressure)
	expectKeeps(t, s, levels(0, 99, 5, 2, 99, 5), 100, 0, api.ErrPressure)
}

// P19.3: no levels, and as many as there may be.
func TestKeepsCount(t *testing.T) {
	s := limited(0, 900, 1000, 700)
	expectKeeps(t, s, nil, 0, -1, api.OK)
	expectKeeps(t, s, []api.Level{}, math.MaxInt, -1, api.OK)
	var l []api.Level
	for at := range 210 {
		l = append(l, exact(at, 700)...)
	}
	expectKeeps(t, s, l[:207], 700, -1, api.OK)
	expectKeeps(t, s, l[:208], 700, -1, api.OK)
	expectKeeps(t, s, l[2:], 700, -1, api.OK)
	expectKeeps(t, s, l[:208], 701, 0, api.ErrPressure)
	for _, vapour := range []int{0, 701} {
		expectKeeps(t, s, l[:209], vapour, 0, api.ErrRange)
		expectKeeps(t, s, l, vapour, 0, api.ErrRange)
		expectKeeps(t, s, make([]api.Level, 100000), vapour, 0, api.ErrRange)
	}
}

// P19.3: levels are at places of the segment, and strictly ascending; that all are there is looked at first.
func TestKeepsPlaces(t *testing.T) {
	s := limited(0, 900, 4, 700, 10, 800)
	for _, high := range []int{500, 5000} {
		for _, at := range []int{-1, 11, 100, math.MinInt, math.MaxInt} {
			expectKeeps(t, s, exact(at, high), 0, 0, api.ErrRange)
			expectKeeps(t, s, exact(0, high, at, high), 0, 0, api.ErrRange)
			expectKeeps(t, s, exact(at, high, 10, high), 0, 0, api.ErrRange)
			expectKeeps(t, s, exact(0, high, at, high, 10, high), 0, 0, api.ErrRange)
			expectKeeps(t, s, exact(5, high, 5, high, at, high), 0, 0, api.ErrRange)
			expectKeeps(t, s, exact(7, high, 5, high, 5, high, at, high), 0, 0, api.ErrRange)
		}
		for _, l := range [][]api.Level{
			exact(0, high, 0, high),
			exact(10, high, 10, high),
			exact(5, high, 4, high),
			exact(10, high, 0, high),
			exact(0, high, 5, high, 5, high, 10, high),
			exact(0, high, 5, high, 6, high, 4, high),
			exact(0, high, 4, high, 10, high, 10, high),
			exact(10, high, 4, high, 0, high),
			exact(3, high, 2, high, 9, high, 10, high),
		} {
			expectKeeps(t, s, l, 0, 0, api.ErrOrder)
		}
	}
	expectKeeps(t, s, exact(0, 700, 10, 700), 0, -1, api.OK)
	expectKeeps(t, s, exact(0, 500, 1, 500, 2, 500, 3, 500, 5, 500, 9, 500), 0, -1, api.OK)
	expectKeeps(t, s, exact(9, 500, 10, 5000), 0, 10, api.ErrPressure)
}
