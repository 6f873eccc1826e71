package station

import (
	"math/big"
	"math/rand"
	"testing"

	"batchline/api"
	"batchline/network"
)

// boostOf is the boost by its definition, with numbers of any size.
func boostOf(s api.Station, rate int) int {
	fall := big.NewInt(int64(s.Fall))
	fall.Mul(fall, big.NewInt(int64(rate)))
	fall.Mul(fall, big.NewInt(int64(rate)))
	fall.Div(fall, big.NewInt(1000)) // of numbers that are not negative, so it rounds down
	left := big.NewInt(int64(s.Head))
	left.Sub(left, fall)
	if left.Sign() < 0 {
		return 0
	}
	return int(left.Int64())
}

// some is a number from 0 to most; small ones and those near to most are as frequent as all others.
func some(r *rand.Rand, most int) int {
	switch r.Intn(4) {
	case 0:
		return min(most, r.Intn(20))
	case 1:
		return max(0, most-r.Intn(20))
	}
	return r.Intn(most + 1)
}

// someStation is a valid station.
func someStation(r *rand.Rand) api.Station {
	falls := []int{10, 1000, 100000}
	heads := []int{100, 500000, api.MaxPressure}
	return api.Station{
		Name: "p", Node: some(r, api.MaxNodes-1), Head: some(r, heads[r.Intn(3)]),
		Fall: some(r, falls[r.Intn(3)]), Suction: some(r, api.MaxPressure),
	}
}

// someBounds are bounds that Raise accepts.
func someBounds(r *rand.Rand) api.Bounds {
	reach := []int{10, 1000000, 1 << 50}[r.Intn(3)]
	low := some(r, 2*reach) - reach
	return api.Bounds{Low: low, High: low + some(r, reach-low)}
}

// P20.2, P20.3: many stations, rates and bounds against the definition.
func TestDefinition(t *testing.T) {
	r := rand.New(rand.NewSource(20))
	for range 200000 {
		s, b := someStation(r), someBounds(r)
		rate := some(r, []int{30, 1000, 32000}[r.Intn(3)])
		boost := boostOf(s, rate)
		expectBoost(t, s, rate, boost, api.OK)
		expectRaise(t, s, b, rate, api.Bounds{Low: b.Low + boost, High: b.High + boost}, api.OK)
	}
}

// P20.1: a station is valid if the greatest network can have it, alone.
func TestValidInNetwork(t *testing.T) {
	names := []string{"a", "b", "c", "d", "e", "f", "g", "h", "i", "j", "k", "l", "m", "n", "o", "p", "q", "r", "s", "t", "u", "v", "w", "x"}
	broken, sound := invalid()
	for _, s := range append(broken, sound...) {
		n := api.Network{Nodes: names, Stations: []api.Station{s}}
		if want := network.Check(n) == api.OK; Valid(s) != want {
			t.Errorf("Valid of %+v = %t, want %t", s, !want, want)
		}
	}
}

// Consequences: the boost never grows with the rate, is Head at the rate 0, and from 0 to Head.
func TestBoostFalls(t *testing.T) {
	for _, s := range []api.Station{pumping(500000, 200), pumping(api.MaxPressure, 1), pumping(api.MaxPressure, 100000), pumping(1000, 7), pumping(5, 0), pumping(0, 5)} {
		expectBoost(t, s, 0, s.Head, api.OK)
		last := s.Head
		for rate := range 32001 {
			boost, e := Boost(s, rate)
			if e != api.OK || boost > last || boost < 0 {
				t.Fatalf("Boost of %+v at %d = %d, %d, behind %d", s, rate, boost, e, last)
			}
			last = boost
		}
	}
}

// Consequences: the difference of the bounds stays.
func TestDifferenceStays(t *testing.T) {
	r := rand.New(rand.NewSource(203))
	for range 20000 {
		s, b := someStation(r), someBounds(r)
		raised, e := Raise(s, b, some(r, 32000))
		if e != api.OK || raised.High-raised.Low != b.High-b.Low || raised.Low < b.Low {
			t.Errorf("Raise of %+v by %+v = %+v, %d", b, s, raised, e)
		}
	}
}

// R3: the same arguments have the same results, whatever was called in between.
func TestSameResults(t *testing.T) {
	s := pumping(500000, 200)
	for range 3 {
		expectBoost(t, s, 100, 498000, api.OK)
		expectBoost(t, s, 32001, 0, api.ErrRange)
		expectBoost(t, api.Station{}, 100, 0, api.ErrInvalid)
		expectRaise(t, s, api.Bounds{Low: 1, High: 2}, 1000, api.Bounds{Low: 300001, High: 300002}, api.OK)
	}
}
