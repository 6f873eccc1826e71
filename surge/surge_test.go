package surge

import (
	"fmt"
	"slices"
	"strconv"
	"testing"

	"batchline/api"
)

// pipe is a segment between two nodes, with its Wave.
type pipe struct{ from, to, wave int }

// build is a network on level ground, without friction, of so many nodes, each of which has a port. The port of each node has the Pressure 500000.
func build(nodes int, pipes ...pipe) api.Network {
	n := api.Network{Nodes: make([]string, nodes)}
	for i := range n.Nodes {
		n.Nodes[i] = "node-" + strconv.Itoa(i)
		n.Ports = append(n.Ports, api.Port{Name: "port-" + strconv.Itoa(i), Node: i, Pressure: 500000})
	}
	for i, x := range pipes {
		n.Segments = append(n.Segments, api.Segment{
			Name: "pipe-" + strconv.Itoa(i), From: x.from, To: x.to, Capacity: 1000, Wave: x.wave,
			Points: []api.Point{{Limit: api.MaxPressure}, {At: 1000, Limit: api.MaxPressure}},
		})
	}
	return n
}

// fed is a plan with these rates for n, and with what flows at the ports, of which each node has one with its number.
func fed(n api.Network, rates ...int) api.Plan {
	p := api.Plan{Rates: rates, Ports: make([]int, len(n.Ports)), Pumps: make([]bool, len(n.Stations))}
	for i, s := range n.Segments {
		p.Ports[s.From] += rates[i]
		p.Ports[s.To] -= rates[i]
	}
	return p
}

// text is v as a text, of which a part may be printed.
func text(v any) string { return fmt.Sprint(v) }

// expectRise checks the groups and the rise of the change from a to b, and back.
func expectRise(t *testing.T, n api.Network, a, b api.Plan, groups [][]int, rise []int) {
	t.Helper()
	for _, x := range [][2]api.Plan{{a, b}, {b, a}} {
		got, e := Groups(n, x[0], x[1])
		if !slices.EqualFunc(got, groups, slices.Equal[[]int]) || e != api.OK {
			t.Errorf("Groups of %.999s, %.999s = %v, %d, want %v", text(n), text(x), got, e, groups)
		}
		if got, e := Rise(n, x[0], x[1]); !slices.Equal(got, rise) || e != api.OK {
			t.Errorf("Rise of %.999s, %.999s = %v, %d, want %v", text(n), text(x), got, e, rise)
		}
	}
}

// expectError checks that Groups and Rise have an error, and no other result.
func expectError(t *testing.T, n api.Network, a, b api.Plan, want api.Errno) {
	t.Helper()
	if got, e := Groups(n, a, b); len(got) > 0 || e != want {
		t.Errorf("Groups of %.999s, %.999s, %.999s = %v, %d, want the error %d", text(n), text(a), text(b), got, e, want)
	}
	if got, e := Rise(n, a, b); len(got) > 0 || e != want {
		t.Errorf("Rise of %.999s, %.999s, %.999s = %v, %d, want the error %d", text(n), text(a), text(b), got, e, want)
	}
}

// P22.1: the example of the chapter.
func TestExample(t *testing.T) {
	n := build(3, pipe{0, 1, 10}, pipe{1, 2, 20})
	expectRise(t, n, fed(n, 100, 100), fed(n, 80, 80), [][]int{{0, 1}}, []int{600, 600})
}

// P22.1: rates of the two segments of the example that grow, fall, turn round, begin and end.
func TestRates(t *testing.T) {
	n := build(3, pipe{0, 1, 10}, pipe{1, 2, 20})
	for _, x := range []struct {
		a, b   []int
		groups [][]int
		rise   []int
	}{
		{[]int{0, 0}, []int{0, 0}, nil, []int{0, 0}},
		{[]int{5, 5}, []int{5, 5}, [][]int{{0, 1}}, []int{0, 0}},
		{[]int{5, 5}, []int{6, 5}, [][]int{{0, 1}}, []int{10, 10}},
		{[]int{5, 5}, []int{6, 4}, [][]int{{0, 1}}, []int{30, 30}},
		{[]int{5, 5}, []int{-5, -5}, [][]int{{0, 1}}, []int{300, 300}},
		{[]int{-5, 5}, []int{-5, -6}, [][]int{{0, 1}}, []int{220, 220}},
		{[]int{-5, -5}, []int{-3, -8}, [][]int{{0, 1}}, []int{80, 80}},
		{[]int{0, 0}, []int{7, 0}, [][]int{{0}}, []int{70, 0}},
		{[]int{0, 0}, []int{0, -7}, [][]int{{1}}, []int{0, 140}},
		{[]int{7, 0}, []int{0, 3}, [][]int{{0, 1}}, []int{130, 130}},
		{[]int{7, 7}, []int{7, 0}, [][]int{{0, 1}}, []int{140, 140}},
		{[]int{-1, 0}, []int{1, 0}, [][]int{{0}}, []int{20, 0}},
		{[]int{1000, 1000}, []int{-1000, -1000}, [][]int{{0, 1}}, []int{60000, 60000}},
	} {
		expectRise(t, n, fed(n, x.a...), fed(n, x.b...), x.groups, x.rise)
	}
}

// P22.1: only the segments that flow in one of the plans join nodes, whatever else there is at these.
func TestJoined(t *testing.T) {
	row := []pipe{{0, 1, 1}, {1, 2, 10}, {2, 3, 100}, {3, 4, 1000}}
	for _, x := range []struct {
		pipes  []pipe
		a, b   []int
		groups [][]int
		rise   []int
	}{
		// The segment between two others does not flow.
		{row, []int{1, 0, 1, 1}, []int{2, 0, 2, 2}, [][]int{{0}, {2, 3}}, []int{1, 0, 1100, 1100}},
		{row, []int{1, 0, 1, 0}, []int{2, 0, 2, 0}, [][]int{{0}, {2}}, []int{1, 0, 100, 0}},
		// It flows in one of the plans.
		{row, []int{1, 0, 1, 0}, []int{2, 3, 2, 0}, [][]int{{0, 1, 2}}, []int{131, 131, 131, 0}},
		{row, []int{1, 3, 1, 0}, []int{2, 3, 1, 0}, [][]int{{0, 1, 2}}, []int{1, 1, 1, 0}},
		// One plan has these segments, and the other one has those.
		{row, []int{1, 0, 1, 0}, []int{0, 2, 0, 0}, [][]int{{0, 1, 2}}, []int{121, 121, 121, 0}},
		{row, []int{1, 0, 0, 0}, []int{0, 0, 0, 1}, [][]int{{0}, {3}}, []int{1, 0, 0, 1000}},
		// What flows together or apart at a node is joined, too.
		{[]pipe{{1, 0, 1}, {2, 0, 2}, {0, 3, 4}}, []int{1, 1, 2}, []int{2, 1, 3}, [][]int{{0, 1, 2}}, []int{5, 5, 5}},
		{[]pipe{{0, 1, 1}, {0, 2, 2}}, []int{1, 1}, []int{3, 1}, [][]int{{0, 1}}, []int{2, 2}},
		{[]pipe{{1, 0, 1}, {2, 0, 2}}, []int{1, 1}, []int{1, 4}, [][]int{{0, 1}}, []int{6, 6}},
		// Segments that lie between the same nodes, in either direction.
		{[]pipe{{0, 1, 1}, {0, 1, 2}, {1, 0, 4}, {2, 3, 8}}, []int{1, 1, -1, 1}, []int{2, 2, -2, 2}, [][]int{{0, 1, 2}, {3}}, []int{7, 7, 7, 8}},
		// A loop, and one that is not closed.
		{[]pipe{{0, 1, 1}, {1, 2, 2}, {0, 2, 4}}, []int{1, 1, 1}, []int{3, 3, 3}, [][]int{{0, 1, 2}}, []int{14, 14, 14}},
		{[]pipe{{0, 1, 1}, {1, 2, 2}, {0, 2, 4}}, []int{1, 0, 1}, []int{3, 0, 3}, [][]int{{0, 2}}, []int{10, 0, 10}},
		// Groups that lie between each other: by their first segments.
		{[]pipe{{4, 5, 1}, {2, 3, 2}, {0, 1, 4}, {5, 4, 8}, {1, 0, 16}, {3, 2, 32}}, []int{1, 1, 1, -1, -1, -1}, []int{2, 2, 2, -2, -2, -2}, [][]int{{0, 3}, {1, 5}, {2, 4}}, []int{9, 34, 20, 9, 20, 34}},
		// The last segment joins what was apart: the groups of 0 and 1, of 2 and 3.
		{[]pipe{{4, 5, 1}, {0, 1, 2}, {2, 3, 4}, {1, 5, 8}}, []int{1, 1, 1, 1}, []int{2, 2, 2, 2}, [][]int{{0, 1, 3}, {2}}, []int{11, 11, 4, 11}},
		{[]pipe{{4, 5, 1}, {0, 1, 2}, {2, 3, 4}, {1, 3, 8}}, []int{1, 1, 1, 1}, []int{2, 2, 2, 2}, [][]int{{0}, {1, 2, 3}}, []int{1, 14, 14, 14}},
		// A segment without a Wave belongs to a group.
		{[]pipe{{0, 1, 0}, {1, 2, 3}}, []int{1, 1}, []int{9, 2}, [][]int{{0, 1}}, []int{3, 3}},
		{[]pipe{{0, 1, 0}, {2, 3, 3}}, []int{1, 1}, []int{9, 2}, [][]int{{0}, {1}}, []int{0, 3}},
		// There is no segment.
		{nil, nil, nil, nil, nil},
	} {
		n := build(6, x.pipes...)
		expectRise(t, n, fed(n, x.a...), fed(n, x.b...), x.groups, x.rise)
	}
}

// P22.1: ports and pumps of a plan neither join nodes nor have a rise.
func TestPortsAndPumps(t *testing.T) {
	n := build(4, pipe{0, 1, 10}, pipe{2, 3, 20})
	n.Stations = []api.Station{{Name: "p", Node: 1}}
	n.Ports = append(n.Ports, api.Port{Name: "more", Node: 1})
	a, b := fed(n, 5, 5), fed(n, 5, 6)
	b.Ports[1], b.Ports[4] = 95, -100
	b.Pumps[0] = true
	expectRise(t, n, a, b, [][]int{{0}, {1}}, []int{0, 20})
}

// P22.1: the greatest network: all nodes in one row, and the greatest rise there is.
func TestGreatest(t *testing.T) {
	var pipes []pipe
	for i := range api.MaxNodes - 1 {
		pipes = append(pipes, pipe{i, i + 1, 100000})
	}
	for i := len(pipes); i < api.MaxSegments; i++ {
		pipes = append(pipes, pipe{i % 7, 23 - i%5, 100000})
	}
	for range 2 {
		n := build(api.MaxNodes, pipes...)
		a, b := fed(n, slices.Repeat([]int{100}, api.MaxSegments)...), fed(n, slices.Repeat([]int{-100}, api.MaxSegments)...)
		all := make([]int, api.MaxSegments)
		for i := range all {
			all[i] = i
		}
		expectRise(t, n, a, b, [][]int{all}, slices.Repeat([]int{100000 * 200 * api.MaxSegments}, api.MaxSegments))
		slices.Reverse(pipes)
	}
}

// P22.1: as many groups as there can be.
func TestManyGroups(t *testing.T) {
	var pipes []pipe
	var groups [][]int
	var rise []int
	for i := range api.MaxNodes / 2 {
		pipes = append(pipes, pipe{api.MaxNodes - 1 - 2*i, api.MaxNodes - 2 - 2*i, i})
		groups = append(groups, []int{i})
		rise = append(rise, 2*i)
	}
	n := build(api.MaxNodes, pipes...)
	expectRise(t, n, fed(n, slices.Repeat([]int{3}, len(pipes))...), fed(n, slices.Repeat([]int{5}, len(pipes))...), groups, rise)
}
