package paths

import (
	"math"
	"slices"
	"testing"

	"batchline/api"
)

// P25.2: the rates of all paths are summed up, by segment and by port.
func TestSum(t *testing.T) {
	n := square()
	for _, x := range []struct {
		l            []api.Path
		rates, ports []int
	}{
		{nil, []int{0, 0, 0, 0, 0}, []int{0, 0, 0, 0, 0}},
		{[]api.Path{path(0, 4, 1)}, []int{0, 0, 0, 0, 0}, []int{1, 0, 0, 0, -1}},
		{[]api.Path{path(0, 1, 7, 0, 1)}, []int{7, 7, 0, 0, 0}, []int{7, -7, 0, 0, 0}},
		{[]api.Path{path(0, 1, 7, 2, -4)}, []int{0, 0, 7, -7, 0}, []int{7, -7, 0, 0, 0}},
		{[]api.Path{path(1, 0, 7, 3, -3)}, []int{0, 0, -7, 7, 0}, []int{-7, 7, 0, 0, 0}},
		{[]api.Path{path(0, 1, 7, 0, 1), path(0, 2, 2, 0, 1), path(4, 2, 5, 4)}, []int{9, 9, 0, 0, 5}, []int{9, -7, -7, 0, 5}},
		{[]api.Path{path(0, 1, 7, 0, 1), path(0, 1, 7, 0, 1), path(0, 1, 1, 0, 1)}, []int{15, 15, 0, 0, 0}, []int{15, -15, 0, 0, 0}},
		{[]api.Path{path(3, 2, 4, 1), path(1, 2, 3), path(0, 4, 9)}, []int{0, 4, 0, 0, 0}, []int{9, 3, -7, 4, -9}},
		{[]api.Path{path(0, 3, 6, 2, -4, -2), path(4, 1, 2, 2, -4)}, []int{0, -6, 8, -8, 0}, []int{6, -2, 0, -6, 2}},
	} {
		expectSum(t, n, x.l, api.Plan{Rates: x.rates, Ports: x.ports})
		backward := slices.Clone(x.l)
		slices.Reverse(backward)
		expectSum(t, n, backward, api.Plan{Rates: x.rates, Ports: x.ports})
	}
}

// P25.2: a port can be the In of a path and the Out of another one: its rate is the sum of both.
func TestSumOfPorts(t *testing.T) {
	n := build(2, [][2]int{{0, 1}}, 0, 0, 1)
	expectSum(t, n, []api.Path{path(0, 1, 5), path(1, 0, 3)}, api.Plan{Rates: []int{0}, Ports: []int{2, -2, 0}})
	expectSum(t, n, []api.Path{path(0, 1, 5), path(1, 0, 5)}, api.Plan{Rates: []int{0}, Ports: []int{0, 0, 0}})
	expectSum(t, n, []api.Path{path(0, 1, 1000), path(1, 2, 1000, 0)}, api.Plan{Rates: []int{1000}, Ports: []int{1000, 0, -1000}})
	expectSum(t, n, []api.Path{path(0, 1, 1000), path(1, 0, 1000), path(0, 1, 1000)}, api.Plan{Rates: []int{0}, Ports: []int{1000, -1000, 0}})
}

// P25.2: as many paths as there may be, and one more.
func TestSumMany(t *testing.T) {
	n := square()
	for _, p := range []api.Path{path(0, 1, 1, 0, 1), path(0, 4, 1), path(1, 0, 1, 3, -3)} {
		for _, count := range []int{1, 63, 64, 65, 66, 1000, 100000} {
			l := slices.Repeat([]api.Path{p}, count)
			if count > api.MaxPaths {
				expectSumError(t, n, l, nil, api.ErrPath)
				continue
			}
			sum, e := Sum(n, l, nil)
			if e != api.OK || sum.Ports[p.In] != count || sum.Ports[p.Out] != -count {
				t.Errorf("Sum of %d paths = %v, %d", count, sum, e)
			}
		}
	}
}

// P25.2: paths that flow through a segment both ways, whatever their rates are, and wherever they stand.
func TestSumBothWays(t *testing.T) {
	n := square()
	other := []api.Path{path(0, 4, 1), path(0, 3, 2, 0), path(0, 1, 2, 4)}
	for _, x := range [][2]api.Path{
		{path(0, 1, 5, 0, 1), path(1, 0, 5, -2, -1)},
		{path(0, 1, 5, 0, 1), path(1, 0, 2, -2, -1)},
		{path(0, 1, 1, 4), path(2, 4, 1, -5)},
		{path(0, 1, 3, 0, 1), path(1, 3, 1, -2)},
		{path(0, 1, 3, 0, 1), path(0, 3, 1, 4, -2)},
		{path(0, 1, 3, 2, -4), path(1, 0, 1, 3, -3)},
	} {
		expectSumError(t, n, x[:], nil, api.ErrPath)
		expectSumError(t, n, []api.Path{x[1], x[0]}, nil, api.ErrPath)
		expectSumError(t, n, slices.Concat(x[:1], other, x[1:]), nil, api.ErrPath)
		expectSumError(t, n, slices.Concat(other, x[:]), nil, api.ErrPath)
	}
	wide := build(2, slices.Repeat([][2]int{{0, 1}}, api.MaxSegments), 0, 1)
	for i := range api.MaxSegments {
		expectSumError(t, wide, []api.Path{path(0, 1, 2, i), path(1, 0, 1, -1-i)}, nil, api.ErrPath)
	}
}

// P25.2: rates up to the capacity and the greatest rate, of segments and ports.
func TestSumRange(t *testing.T) {
	n := build(2, [][2]int{{0, 1}, {0, 1}, {1, 0}}, 0, 1, 0, 1, 1)
	n.Segments[1].Capacity, n.Segments[1].Points[1].At = 30, 30
	expectSum(t, n, []api.Path{path(0, 1, 600, 0), path(2, 3, 400, 0)}, api.Plan{Rates: []int{1000, 0, 0}, Ports: []int{600, -600, 400, -400, 0}})
	expectSumError(t, n, []api.Path{path(0, 1, 600, 0), path(2, 3, 401, 0)}, nil, api.ErrRange)
	expectSumError(t, n, []api.Path{path(0, 1, 600, -3), path(2, 3, 401, -3)}, nil, api.ErrRange)
	expectSum(t, n, []api.Path{path(0, 1, 10, 1), path(2, 3, 20, 1)}, api.Plan{Rates: []int{0, 30, 0}, Ports: []int{10, -10, 20, -20, 0}})
	expectSumError(t, n, []api.Path{path(0, 1, 10, 1), path(2, 3, 21, 1)}, nil, api.ErrRange)
	expectSumError(t, n, []api.Path{path(0, 1, 31, 1)}, nil, api.ErrRange)
	expectSum(t, n, []api.Path{path(0, 1, 400, 0), path(0, 3, 600, -3)}, api.Plan{Rates: []int{400, 0, -600}, Ports: []int{1000, -400, 0, -600, 0}})
	expectSumError(t, n, []api.Path{path(0, 1, 401, 0), path(0, 3, 600, -3)}, nil, api.ErrRange)
	expectSumError(t, n, []api.Path{path(1, 3, 401), path(4, 3, 600)}, nil, api.ErrRange)
	expectSum(t, n, []api.Path{path(1, 3, 400), path(4, 3, 600)}, api.Plan{Rates: []int{0, 0, 0}, Ports: []int{0, 400, 0, -1000, 600}})
	expectSumError(t, n, slices.Repeat([]api.Path{path(1, 3, 1000)}, api.MaxPaths), nil, api.ErrRange)
}

// P25.2: paths that flow in a circle together, though none of them does alone.
func TestSumCycle(t *testing.T) {
	n := build(3, [][2]int{{0, 1}, {1, 2}, {0, 2}}, 0, 1, 2)
	l := []api.Path{path(0, 1, 5, 0), path(1, 2, 5, 1), path(2, 0, 5, -3)}
	expectSumError(t, n, l, nil, api.ErrCycle)
	expectSum(t, n, l[:2], api.Plan{Rates: []int{5, 5, 0}, Ports: []int{5, 0, -5}})
	expectSum(t, n, l[1:], api.Plan{Rates: []int{0, 5, -5}, Ports: []int{-5, 5, 0}})
	two := build(2, [][2]int{{0, 1}, {0, 1}}, 0, 1)
	expectSumError(t, two, []api.Path{path(0, 1, 5, 0), path(1, 0, 2, -2)}, nil, api.ErrCycle)
	expectSum(t, two, []api.Path{path(0, 1, 5, 0), path(0, 1, 2, 1)}, api.Plan{Rates: []int{5, 2}, Ports: []int{7, -7}})
}

// P25.3: what two lists have in common is in the order of the first one, with the lesser rates.
func TestCommon(t *testing.T) {
	a := []api.Path{path(0, 1, 5, 0, 1), path(0, 2, 3), path(4, 1, 7, 2, -4), path(4, 2, 9, 4)}
	b := []api.Path{path(4, 2, 4, 4), path(4, 1, 7, 2, -4), path(3, 2, 1), path(0, 2, 6)}
	expectCommon(t, a, b, path(0, 2, 3), path(4, 1, 7, 2, -4), path(4, 2, 4, 4))
	expectCommon(t, b, a, path(4, 2, 4, 4), path(4, 1, 7, 2, -4), path(0, 2, 3))
	expectCommon(t, a, a, a...)
	expectCommon(t, a, nil)
	expectCommon(t, nil, b)
	expectCommon(t, nil, nil)
	expectCommon(t, a[:1], b)
}

// P25.3: paths are alike with the same In, Out and Hops, whatever their rates are.
func TestAlike(t *testing.T) {
	p := path(1, 2, 6, 3, -5)
	for _, q := range []api.Path{
		path(0, 2, 6, 3, -5), path(1, 3, 6, 3, -5), path(2, 1, 6, 3, -5), path(1, 2, 6, 3), path(1, 2, 6), path(1, 2, 6, 3, -5, 1),
		path(1, 2, 6, -5, 3), path(1, 2, 6, 3, 4), path(1, 2, 6, -4, -5), path(1, 2, 6, 3, -6), path(1, 2, 6, 2, -5), path(1, 2, 6, 4, -4),
	} {
		expectCommon(t, []api.Path{p}, []api.Path{q})
		expectCommon(t, []api.Path{q}, []api.Path{p})
		expectNotLess(t, []api.Path{p}, []api.Path{q})
		expectNotLess(t, []api.Path{q}, []api.Path{p})
		expectCommon(t, []api.Path{p, q}, []api.Path{q, p}, p, q)
		expectLess(t, []api.Path{p, q}, []api.Path{q}, p)
		expectLess(t, []api.Path{q, p}, []api.Path{q}, p)
	}
	for rate := 1; rate <= 6; rate++ {
		q := path(1, 2, rate, 3, -5)
		expectCommon(t, []api.Path{p}, []api.Path{q}, q)
		expectCommon(t, []api.Path{q}, []api.Path{p}, q)
	}
	expectCommon(t, []api.Path{{Out: 1, Rate: 2, Hops: []api.Hop{}}}, []api.Path{path(0, 1, 3)}, path(0, 1, 2))
}

// P25.3: what is left of each path keeps its place; what is used up is left out.
func TestLess(t *testing.T) {
	a := []api.Path{path(0, 1, 5, 0, 1), path(0, 2, 3), path(4, 1, 7, 2, -4), path(4, 2, 9, 4)}
	expectLess(t, a, nil, a...)
	expectLess(t, a, a)
	expectLess(t, nil, nil)
	expectLess(t, a, a[1:3], a[0], a[3])
	expectLess(t, a, []api.Path{path(4, 2, 9, 4), path(0, 1, 5, 0, 1)}, a[1], a[2])
	expectLess(t, a, []api.Path{path(4, 2, 1, 4), path(0, 1, 4, 0, 1)}, path(0, 1, 1, 0, 1), a[1], a[2], path(4, 2, 8, 4))
	expectLess(t, a, []api.Path{path(0, 2, 2), path(4, 1, 7, 2, -4)}, a[0], path(0, 2, 1), a[3])
}

// P25.3: false, if a path of b is not in a, or has a greater rate, wherever it stands.
func TestNotLess(t *testing.T) {
	a := []api.Path{path(0, 1, 5, 0, 1), path(0, 2, 3), path(4, 1, 7, 2, -4), path(4, 2, 9, 4)}
	for _, wrong := range []api.Path{path(0, 1, 6, 0, 1), path(0, 2, 4), path(4, 1, 1000, 2, -4), path(4, 2, 10, 4), path(0, 3, 1), path(1, 0, 1, -2, -1), path(0, 1, 1, 4)} {
		expectNotLess(t, a, []api.Path{wrong})
		expectNotLess(t, nil, []api.Path{wrong})
		var rest []api.Path
		for _, p := range a {
			if p.In != wrong.In || p.Out != wrong.Out || !slices.Equal(p.Hops, wrong.Hops) {
				p.Rate--
				rest = append(rest, p)
			}
		}
		for i := range len(rest) + 1 {
			expectNotLess(t, a, slices.Insert(slices.Clone(rest), i, wrong))
		}
	}
}

// P25.3: the paths with a hop over a segment, either way, wherever it stands in them.
func TestThrough(t *testing.T) {
	n := square()
	l := []api.Path{path(0, 1, 5, 0, 1), path(0, 2, 3, 4), path(4, 1, 7, 2, -4), path(0, 4, 2), path(0, 3, 9, 2, -4, -2), path(1, 2, 6), path(4, 3, 8, 0)}
	expectThrough(t, n, l, 0, l[0], l[6])
	expectThrough(t, n, l, 1, l[0], l[4])
	expectThrough(t, n, l, 2, l[2], l[4])
	expectThrough(t, n, l, 3, l[2], l[4])
	expectThrough(t, n, l, 4, l[1])
	expectThrough(t, n, l[3:4], 0)
	expectThrough(t, n, nil, 4)
	wide := build(2, slices.Repeat([][2]int{{0, 1}}, api.MaxSegments), 0, 1)
	for i := range api.MaxSegments {
		expectThrough(t, wide, []api.Path{path(0, 1, 1, i), path(0, 1, 1, (i+1)%api.MaxSegments)}, i, path(0, 1, 1, i))
	}
}

// R1, R6: paths that are not valid are taken by Common, Less and Through without harm.
func TestAnyPaths(t *testing.T) {
	l := []api.Path{
		{}, {In: -1, Out: math.MinInt, Rate: math.MinInt}, {In: math.MaxInt, Rate: math.MaxInt}, {In: math.MaxInt, Rate: math.MinInt},
		path(0, 0, -7, 0, 0), path(0, 0, 7, 0, 0), {Hops: []api.Hop{{Segment: math.MinInt}, {Segment: math.MaxInt, Back: true}}},
		path(0, 1, 1, slices.Repeat([]int{0}, 1000)...),
	}
	for i := range l {
		for k := range l {
			Common(l[i:], l[:k])
			Less(l[i:], l[:k])
		}
		Sum(square(), l[i:], nil)
	}
	for segment := -2; segment < 7; segment++ {
		Through(square(), l, segment)
	}
}
