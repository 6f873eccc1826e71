package paths

import (
	"fmt"
	"math"
	"slices"
	"strconv"
	"testing"

	"batchline/api"
)

// build is a network of so many nodes, with segments and ports at these.
func build(nodes int, segments [][2]int, ports ...int) api.Network {
	n := api.Network{Nodes: make([]string, nodes)}
	for i := range n.Nodes {
		n.Nodes[i] = "node-" + strconv.Itoa(i)
	}
	for i, ends := range segments {
		n.Segments = append(n.Segments, api.Segment{
			Name: "segment-" + strconv.Itoa(i), From: ends[0], To: ends[1], Capacity: 5000,
			Points: []api.Point{{}, {At: 5000}},
		})
	}
	for i, node := range ports {
		n.Ports = append(n.Ports, api.Port{Name: "port-" + strconv.Itoa(i), Node: node})
	}
	return n
}

// square is a network with three ways from the node 0 to the node 3: over 1, over 2 (its second segment leads back), and straight.
func square() api.Network {
	return build(4, [][2]int{{0, 1}, {1, 3}, {0, 2}, {3, 2}, {0, 3}}, 0, 3, 3, 1, 0)
}

// chain is a network of as many nodes as there can be, in a row, with a port at each of them.
func chain() api.Network {
	var segments [][2]int
	ports := []int{0}
	for i := 1; i < api.MaxNodes; i++ {
		segments = append(segments, [2]int{i - 1, i})
		ports = append(ports, i)
	}
	return build(api.MaxNodes, segments, ports...)
}

// hops are those over segments; a negative number -1-i stands for the segment i back.
func hops(numbers ...int) []api.Hop {
	var list []api.Hop
	for _, i := range numbers {
		if i < 0 {
			list = append(list, api.Hop{Segment: -1 - i, Back: true})
		} else {
			list = append(list, api.Hop{Segment: i})
		}
	}
	return list
}

// path is one from a port to a port with a rate over hops.
func path(in, out, rate int, numbers ...int) api.Path {
	return api.Path{In: in, Out: out, Rate: rate, Hops: hops(numbers...)}
}

// samePath reports whether two paths are equal.
func samePath(a, b api.Path) bool {
	return a.In == b.In && a.Out == b.Out && a.Rate == b.Rate && slices.Equal(a.Hops, b.Hops)
}

// same reports whether two lists of paths are equal.
func same(a, b []api.Path) bool { return slices.EqualFunc(a, b, samePath) }

// samePlan reports whether two plans are equal.
func samePlan(a, b api.Plan) bool {
	return slices.Equal(a.Rates, b.Rates) && slices.Equal(a.Ports, b.Ports) && slices.Equal(a.Pumps, b.Pumps)
}

// text is v as a text, of which a part may be printed.
func text(v any) string { return fmt.Sprint(v) }

// expectValid checks whether a path is valid.
func expectValid(t *testing.T, n api.Network, p api.Path, want bool) {
	t.Helper()
	if Valid(n, p) != want {
		t.Errorf("Valid of %.999s in %.999s = %t", text(p), text(n), !want)
	}
}

// expectDivide checks the paths of a plan, and that they sum up to it.
func expectDivide(t *testing.T, n api.Network, p api.Plan, want ...api.Path) {
	t.Helper()
	if got, e := Divide(n, p); !same(got, want) || e != api.OK {
		t.Errorf("Divide of %.999s, %.999s = %.999s, %d, want %.999s", text(n), text(p), text(got), e, text(want))
	}
	expectSum(t, n, want, p)
}

// expectSum checks the plan of paths, with its pumps.
func expectSum(t *testing.T, n api.Network, l []api.Path, want api.Plan) {
	t.Helper()
	if got, e := Sum(n, l, want.Pumps); !samePlan(got, want) || e != api.OK {
		t.Errorf("Sum of %.999s, %.999s = %v, %d, want %v", text(n), text(l), got, e, want)
	}
}

// expectSumError checks the error of a sum, and that it has no other result.
func expectSumError(t *testing.T, n api.Network, l []api.Path, pumps []bool, want api.Errno) {
	t.Helper()
	if got, e := Sum(n, l, pumps); !samePlan(got, api.Plan{}) || e != want {
		t.Errorf("Sum of %.999s, %.999s, %v = %v, %d, want the error %d", text(n), text(l), pumps, got, e, want)
	}
}

// expectCommon checks what two lists have in common.
func expectCommon(t *testing.T, a, b []api.Path, want ...api.Path) {
	t.Helper()
	if got := Common(a, b); !same(got, want) {
		t.Errorf("Common of %.999s, %.999s = %.999s, want %.999s", text(a), text(b), text(got), text(want))
	}
}

// expectLess checks what is left of a without b.
func expectLess(t *testing.T, a, b []api.Path, want ...api.Path) {
	t.Helper()
	if got, ok := Less(a, b); !same(got, want) || !ok {
		t.Errorf("Less of %.999s, %.999s = %.999s, %t, want %.999s", text(a), text(b), text(got), ok, text(want))
	}
}

// expectNotLess checks that b cannot be taken from a.
func expectNotLess(t *testing.T, a, b []api.Path) {
	t.Helper()
	if got, ok := Less(a, b); len(got) > 0 || ok {
		t.Errorf("Less of %.999s, %.999s = %.999s, %t, want none", text(a), text(b), text(got), ok)
	}
}

// expectThrough checks the paths over a segment.
func expectThrough(t *testing.T, n api.Network, l []api.Path, segment int, want ...api.Path) {
	t.Helper()
	if got, e := Through(n, l, segment); !same(got, want) || e != api.OK {
		t.Errorf("Through of %.999s, %.999s, %d = %.999s, %d, want %.999s", text(n), text(l), segment, text(got), e, text(want))
	}
}

// P25.1: the example of the chapter.
func TestExample(t *testing.T) {
	expectDivide(t, build(1, nil, 0, 0, 0), api.Plan{Ports: []int{3, 4, -7}}, path(0, 2, 3), path(1, 2, 4))
	expectDivide(t, build(1, nil, 0, 0, 0), api.Plan{Ports: []int{-7, 3, 4}}, path(1, 0, 3), path(2, 0, 4))
	expectDivide(t, build(1, nil, 0, 0, 0), api.Plan{Ports: []int{-3, 7, -4}}, path(1, 0, 3), path(1, 2, 4))
}

// P25.1: the hops of a valid path lead from the node of In to that of Out.
func TestValidHops(t *testing.T) {
	n := square()
	for _, numbers := range [][]int{{0, 1}, {2, -4}, {4}} {
		expectValid(t, n, path(0, 1, 1, numbers...), true)
		expectValid(t, n, path(4, 2, 1, numbers...), true)
		expectValid(t, n, path(1, 0, 1, numbers...), false)
		expectValid(t, n, path(0, 4, 1, numbers...), false)
		expectValid(t, n, path(1, 2, 1, numbers...), false)
		expectValid(t, n, path(0, 3, 1, numbers...), false)
		expectValid(t, n, path(3, 1, 1, numbers...), false)
	}
	for _, numbers := range [][]int{{-2, -1}, {3, -3}, {-5}} {
		expectValid(t, n, path(1, 0, 1, numbers...), true)
		expectValid(t, n, path(0, 1, 1, numbers...), false)
	}
	expectValid(t, n, path(3, 1, 1, 1), true)
	expectValid(t, n, path(3, 1, 1, -1, 4), true)
	expectValid(t, n, path(3, 1, 1, -1, 2, -4), true)
	expectValid(t, n, path(0, 3, 1, 2, -4, -2), true)
	for _, numbers := range [][]int{{}, {0}, {1}, {1, 0}, {2, 3}, {-1, 1}, {0, -2}, {-5}, {4, 4}, {0, 1, 1}, {0, 0, 1}, {2}, {-4}, {2, -4, 4}, {5}, {0, 1, 5}, {-6}} {
		expectValid(t, n, path(0, 1, 1, numbers...), false)
	}
}

// P25.1: no node is passed twice, neither the first nor the last one nor one between them.
func TestValidTwice(t *testing.T) {
	n := square()
	for _, numbers := range [][]int{
		{4, 3, -3, 4}, {0, -1, 4}, {2, -3, 0, 1}, {0, 1, -5, 4}, {4, -5, 4}, {0, 1, 3, -4}, {4, -2, 1}, {0, 1, -2, 1},
		{2, -4, 3, -4}, {0, 1, 3, -3, 4},
	} {
		expectValid(t, n, path(0, 1, 1, numbers...), false)
	}
	expectValid(t, n, path(0, 4, 1), true)
	for _, numbers := range [][]int{{0, -1}, {4, -5}, {0, 1, -5}, {4, 3, -3}, {4, -2, -1}} {
		expectValid(t, n, path(0, 4, 1, numbers...), false)
	}
	inner := build(4, [][2]int{{0, 1}, {1, 2}, {2, 1}, {1, 3}}, 0, 3)
	expectValid(t, inner, path(0, 1, 1, 0, 3), true)
	expectValid(t, inner, path(0, 1, 1, 0, 1, 2, 3), false)
	expectValid(t, inner, path(0, 1, 1, 0, 1, -2, 3), false)
}

// P25.1: both ports at one node: there are no hops.
func TestValidAtOneNode(t *testing.T) {
	n := build(2, [][2]int{{0, 1}, {1, 0}}, 0, 0, 1)
	expectValid(t, n, path(0, 1, 1), true)
	expectValid(t, n, path(1, 0, 1), true)
	expectValid(t, n, api.Path{In: 1, Out: 0, Rate: 1, Hops: []api.Hop{}}, true)
	expectValid(t, n, path(0, 0, 1), false)
	expectValid(t, n, path(0, 2, 1), false)
	expectValid(t, n, path(2, 2, 1), false)
	expectValid(t, n, path(0, 0, 1, 0, 1), false)
	expectValid(t, n, path(0, 1, 1, 0, 1), false)
	expectValid(t, n, path(0, 1, 1, 0), false)
	expectValid(t, n, path(0, 2, 1, 0), true)
	expectValid(t, n, path(0, 2, 1, -2), true)
}

// P25.1: the ends of the rates, of the ports, and of the segments.
func TestValidRanges(t *testing.T) {
	n := square()
	for rate, want := range map[int]bool{0: false, 1: true, 2: true, 999: true, 1000: true, 1001: false, -1: false, -1000: false, math.MinInt: false, math.MaxInt: false} {
		expectValid(t, n, path(0, 1, rate, 0, 1), want)
		expectValid(t, n, path(0, 4, rate), want)
	}
	n.Segments[4].Capacity, n.Segments[4].Points[1].At = 1, 1
	expectValid(t, n, path(0, 1, 1000, 4), true)
	for _, i := range []int{-1, 5, 6, 32, math.MinInt, math.MaxInt} {
		expectValid(t, n, path(i, 1, 1, 4), false)
		expectValid(t, n, path(0, i, 1, 4), false)
		expectValid(t, n, path(0, i, 1), false)
		expectValid(t, n, path(i, i, 1), false)
		expectValid(t, n, api.Path{Out: 1, Rate: 1, Hops: []api.Hop{{Segment: i}}}, false)
		expectValid(t, n, api.Path{Out: 1, Rate: 1, Hops: []api.Hop{{Segment: i, Back: true}}}, false)
		expectValid(t, n, api.Path{Out: 1, Rate: 1, Hops: []api.Hop{{Segment: 4}, {Segment: i}}}, false)
		expectValid(t, n, api.Path{Out: 1, Rate: 1, Hops: []api.Hop{{Segment: 0}, {Segment: i, Back: true}}}, false)
	}
	expectValid(t, n, api.Path{}, false)
	expectValid(t, build(1, nil), path(0, 1, 1), false)
	expectValid(t, build(1, nil, 0), path(0, 1, 1), false)
}

// P25.1: the longest paths, and those that are too long.
func TestValidLong(t *testing.T) {
	n := chain()
	last := api.MaxNodes - 1
	var there, back []int
	for i := range last {
		there, back = append(there, i), append([]int{-1 - i}, back...)
	}
	expectValid(t, n, path(0, last, 1, there...), true)
	expectValid(t, n, path(last, 0, 1, back...), true)
	expectValid(t, n, path(0, last-1, 1, there...), false)
	expectValid(t, n, path(0, last-1, 1, there[:last-1]...), true)
	expectValid(t, n, path(0, 0, 1, slices.Concat(there, back)...), false)
	expectValid(t, n, path(0, last, 1, slices.Concat(there, back, there)...), false)
	for _, count := range []int{api.MaxHops - 1, api.MaxHops, api.MaxHops + 1, 100001} {
		expectValid(t, n, path(0, 1, 1, slices.Repeat([]int{0, -1}, count)[:count]...), false)
		expectValid(t, n, path(0, 1, 1, slices.Repeat([]int{0}, count)...), false)
	}
}

// P25.1: the first port with a rate is the In, ports come before segments, both by number, and the least rate is that of the path.
func TestDivide(t *testing.T) {
	expectDivide(t, square(), api.Plan{Rates: []int{5, 3, 4, -4, 2}, Ports: []int{6, -4, -5, -2, 5}},
		path(0, 3, 2, 0), path(0, 1, 3, 0, 1), path(0, 1, 1, 2, -4), path(4, 2, 3, 2, -4), path(4, 2, 2, 4))
	expectDivide(t, square(), api.Plan{Rates: []int{-5, -3, -4, 4, -2}, Ports: []int{-6, 4, 5, 2, -5}},
		path(1, 0, 3, -2, -1), path(1, 0, 1, 3, -3), path(2, 0, 2, 3, -3), path(2, 4, 1, 3, -3), path(2, 4, 2, -5), path(3, 4, 2, -1))
	n := build(2, [][2]int{{0, 1}, {0, 1}, {1, 0}}, 1, 0, 0, 1)
	expectDivide(t, n, api.Plan{Rates: []int{2, 0, -1}, Ports: []int{0, 5, -2, -3}},
		path(1, 2, 2), path(1, 3, 2, 0), path(1, 3, 1, -3))
	expectDivide(t, n, api.Plan{Rates: []int{0, 7, 0}, Ports: []int{-5, 9, -2, -2}},
		path(1, 2, 2), path(1, 0, 5, 1), path(1, 3, 2, 1))
	expectDivide(t, n, api.Plan{Rates: []int{-4, 0, 1}, Ports: []int{3, -1, -4, 2}},
		path(0, 1, 1, -1), path(0, 2, 2, -1), path(3, 2, 1, -1), path(3, 2, 1, 2))
}

// P25.1: the rate is the least one of In, of Out, or of any segment, and several can be used up at once.
func TestDivideLeast(t *testing.T) {
	n := build(3, [][2]int{{0, 1}, {1, 2}}, 0, 1, 2, 1)
	for _, x := range []struct {
		rates, ports []int
		paths        []api.Path
	}{
		{[]int{7, 7}, []int{7, 0, -7, 0}, []api.Path{path(0, 2, 7, 0, 1)}},
		{[]int{3, 7}, []int{3, 4, -7, 0}, []api.Path{path(0, 2, 3, 0, 1), path(1, 2, 4, 1)}},
		{[]int{7, 3}, []int{7, -4, -3, 0}, []api.Path{path(0, 1, 4, 0), path(0, 2, 3, 0, 1)}},
		{[]int{7, 3}, []int{7, 2, -3, -6}, []api.Path{path(0, 3, 6, 0), path(0, 2, 1, 0, 1), path(1, 2, 2, 1)}},
		{[]int{7, -3}, []int{7, -4, 3, -6}, []api.Path{path(0, 1, 4, 0), path(0, 3, 3, 0), path(2, 3, 3, -2)}},
		{[]int{0, 0}, []int{0, 5, 0, -5}, []api.Path{path(1, 3, 5)}},
		{[]int{0, 0}, []int{0, -5, 0, 5}, []api.Path{path(3, 1, 5)}},
		{[]int{1000, 1000}, []int{1000, 0, -1000, 0}, []api.Path{path(0, 2, 1000, 0, 1)}},
		{[]int{-1000, -1000}, []int{-1000, 1000, 1000, -1000}, []api.Path{path(1, 3, 1000), path(2, 0, 1000, -2, -1)}},
		{[]int{1, 1}, []int{1, 0, -1, 0}, []api.Path{path(0, 2, 1, 0, 1)}},
		{[]int{0, 0}, []int{0, 0, 0, 0}, nil},
	} {
		expectDivide(t, n, api.Plan{Rates: x.rates, Ports: x.ports}, x.paths...)
	}
}

// P25.1: pumps have no paths, but are those of the sum.
func TestDividePumps(t *testing.T) {
	n := build(2, [][2]int{{0, 1}}, 0, 1)
	n.Stations = []api.Station{{Name: "first", Node: 1}, {Name: "second", Node: 0}}
	for _, pumps := range [][]bool{{false, false}, {true, false}, {false, true}, {true, true}} {
		expectDivide(t, n, api.Plan{Rates: []int{6}, Ports: []int{6, -6}, Pumps: pumps}, path(0, 1, 6, 0))
		expectDivide(t, n, api.Plan{Rates: []int{0}, Ports: []int{0, 0}, Pumps: pumps})
	}
}

// P25.1, P25.2: a network without anything, the longest path, and the plan with the most rates.
func TestDivideGreatest(t *testing.T) {
	expectDivide(t, build(1, nil), api.Plan{})
	expectDivide(t, build(3, nil), api.Plan{Rates: []int{}, Ports: []int{}, Pumps: []bool{}})
	long := api.Plan{Rates: slices.Repeat([]int{-9}, api.MaxNodes-1), Ports: make([]int, api.MaxNodes)}
	long.Ports[0], long.Ports[api.MaxNodes-1] = -9, 9
	var back []int
	for i := range api.MaxNodes - 1 {
		back = append([]int{-1 - i}, back...)
	}
	expectDivide(t, chain(), long, path(api.MaxNodes-1, 0, 9, back...))
	ports := slices.Repeat([]int{0, 1}, api.MaxPorts/2)
	n := build(2, slices.Repeat([][2]int{{0, 1}}, api.MaxSegments), ports...)
	p := api.Plan{Rates: slices.Repeat([]int{3}, api.MaxSegments), Ports: slices.Repeat([]int{8, -8}, api.MaxPorts/2)}
	var want []api.Path
	in, out := slices.Clone(p.Ports), slices.Clone(p.Ports)
	for segment := range p.Rates {
		for left := 3; left > 0; {
			i, o := slices.IndexFunc(in, func(rate int) bool { return rate > 0 }), slices.IndexFunc(out, func(rate int) bool { return rate < 0 })
			rate := min(left, in[i], -out[o])
			want = append(want, path(i, o, rate, segment))
			in[i], out[o], left = in[i]-rate, out[o]+rate, left-rate
		}
	}
	if len(want) < 40 {
		t.Errorf("only %d paths", len(want))
	}
	expectDivide(t, n, p, want...)
}

// P25.1: more paths, or hops of one, than there may be. (No plan has as many: one has at most 56 rates that can be used up, and 24 nodes.)
func TestTooMany(t *testing.T) {
	for count := range 70 {
		if areTooMany(slices.Repeat([]api.Path{path(0, 1, 1, 0)}, count)) != (count > 64) {
			t.Errorf("%d paths are told wrong", count)
		}
		long := path(0, 1, 1, slices.Repeat([]int{0}, count)...)
		for _, l := range [][]api.Path{{long}, {path(0, 1, 1), long}, {long, path(0, 1, 1)}} {
			if areTooMany(l) != (count > 32) {
				t.Errorf("%d hops are told wrong", count)
			}
		}
	}
}
