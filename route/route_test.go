package route

import (
	"math"
	"math/rand"
	"slices"
	"strconv"
	"testing"

	"batchline/api"
)

// capacity is that of the segment i: no two sums of a few of them are equal.
func capacity(i int) int { return 1000 + i*i*i + 7*i }

// joined is a network with so many nodes, and segments between these ones.
func joined(nodes int, ends ...[2]int) api.Network {
	var n api.Network
	for i := range nodes {
		n.Nodes = append(n.Nodes, "n"+strconv.Itoa(i))
	}
	for i, e := range ends {
		n.Segments = append(n.Segments, api.Segment{
			Name: "s" + strconv.Itoa(i), From: e[0], To: e[1], Capacity: capacity(i),
			Points: []api.Point{{}, {At: capacity(i)}},
		})
	}
	return n
}

// example is the network of the chapter's example; its nodes are a, b and c.
func example() api.Network { return joined(3, [2]int{0, 1}, [2]int{0, 1}, [2]int{2, 1}) }

// chain is a network of as many nodes as there can be, one behind the other.
func chain() api.Network {
	var ends [][2]int
	for i := range api.MaxNodes - 1 {
		ends = append(ends, [2]int{i, i + 1})
	}
	return joined(api.MaxNodes, ends...)
}

// closing is a list of closed segments for n, of which these are closed.
func closing(n api.Network, segments ...int) []bool {
	closed := make([]bool, len(n.Segments))
	for _, i := range segments {
		closed[i] = true
	}
	return closed
}

// ahead and back are hops.
func ahead(i int) api.Hop { return api.Hop{Segment: i} }
func back(i int) api.Hop  { return api.Hop{Segment: i, Back: true} }

// expectWay checks a result of Way.
func expectWay(t *testing.T, n api.Network, closed []bool, from, to int, want []api.Hop, wantErr api.Errno) {
	t.Helper()
	if way, e := Way(n, closed, from, to); !slices.Equal(way, want) || e != wantErr {
		t.Errorf("Way from %d to %d of %v without %v = %v, %d, want %v, %d", from, to, n.Segments, closed, way, e, want, wantErr)
	}
}

// expectLength checks a result of Length.
func expectLength(t *testing.T, n api.Network, way []api.Hop, want int, wantErr api.Errno) {
	t.Helper()
	if length, e := Length(n, way); length != want || e != wantErr {
		t.Errorf("Length of %v in %v = %d, %d, want %d, %d", way, n.Segments, length, e, want, wantErr)
	}
}

// P13.1: the ways of the chapter's example.
func TestWayExample(t *testing.T) {
	n := example()
	expectWay(t, n, closing(n), 0, 2, []api.Hop{ahead(0), back(2)}, api.OK)
	expectWay(t, n, closing(n, 0), 0, 2, []api.Hop{ahead(1), back(2)}, api.OK)
	expectWay(t, n, closing(n, 1), 2, 0, []api.Hop{ahead(2), back(0)}, api.OK)
	expectWay(t, n, closing(n, 0, 1), 0, 2, nil, api.ErrWay)
	expectWay(t, n, closing(n, 2), 0, 2, nil, api.ErrWay)
	expectWay(t, n, closing(n, 2), 0, 1, []api.Hop{ahead(0)}, api.OK)
}

// P13.1: the way from a node to itself is empty, whatever is closed.
func TestWayToItself(t *testing.T) {
	n := example()
	for node := range n.Nodes {
		expectWay(t, n, closing(n), node, node, nil, api.OK)
		expectWay(t, n, closing(n, 0, 1, 2), node, node, nil, api.OK)
	}
	expectWay(t, joined(1), nil, 0, 0, nil, api.OK)
	expectWay(t, joined(1), []bool{}, 0, 0, nil, api.OK)
}

// P13.1: fewer hops are less than lesser segments, and the first hop in which two ways differ decides.
func TestWayLeast(t *testing.T) {
	long := joined(4, [2]int{0, 1}, [2]int{1, 2}, [2]int{2, 3}, [2]int{3, 0})
	expectWay(t, long, closing(long), 0, 3, []api.Hop{back(3)}, api.OK)
	expectWay(t, long, closing(long), 0, 2, []api.Hop{ahead(0), ahead(1)}, api.OK)
	expectWay(t, long, closing(long, 3), 0, 3, []api.Hop{ahead(0), ahead(1), ahead(2)}, api.OK)
	// The greater node comes first here, and the greater sum of segments is the lesser way.
	first := joined(4, [2]int{0, 2}, [2]int{0, 1}, [2]int{1, 3}, [2]int{2, 3})
	expectWay(t, first, closing(first), 0, 3, []api.Hop{ahead(0), ahead(3)}, api.OK)
	expectWay(t, first, closing(first), 3, 0, []api.Hop{back(2), back(1)}, api.OK)
	// Of two ways back over the same nodes, each hop is the least.
	double := joined(3, [2]int{1, 2}, [2]int{2, 1}, [2]int{1, 0}, [2]int{0, 1})
	expectWay(t, double, closing(double), 0, 2, []api.Hop{back(2), ahead(0)}, api.OK)
	expectWay(t, double, closing(double, 0, 2), 0, 2, []api.Hop{ahead(3), back(1)}, api.OK)
	expectWay(t, double, closing(double, 0), 2, 0, []api.Hop{ahead(1), ahead(2)}, api.OK)
	// The order of the hops ahead of the last one decides, not that of the last one.
	late := joined(5, [2]int{3, 4}, [2]int{0, 1}, [2]int{0, 2}, [2]int{2, 3}, [2]int{1, 3}, [2]int{0, 3})
	expectWay(t, late, closing(late, 5), 0, 4, []api.Hop{ahead(1), ahead(4), ahead(0)}, api.OK)
	expectWay(t, late, closing(late), 0, 4, []api.Hop{ahead(5), ahead(0)}, api.OK)
}

// P13.1: a way through all nodes, and from all to all of a chain.
func TestWayLong(t *testing.T) {
	n := chain()
	for from := range n.Nodes {
		for to := range n.Nodes {
			var want []api.Hop
			for i := from; i < to; i++ {
				want = append(want, ahead(i))
			}
			for i := from - 1; i >= to; i-- {
				want = append(want, back(i))
			}
			expectWay(t, n, closing(n), from, to, want, api.OK)
		}
	}
	expectWay(t, n, closing(n, 11), 3, 20, nil, api.ErrWay)
}

// P13.1: the nodes to which there is a way.
func TestReach(t *testing.T) {
	n := joined(6, [2]int{5, 3}, [2]int{1, 3}, [2]int{4, 2}, [2]int{2, 4})
	for i, x := range []struct {
		closed []int
		node   int
		want   []int
	}{
		{nil, 0, []int{0}},
		{nil, 1, []int{1, 3, 5}},
		{nil, 3, []int{1, 3, 5}},
		{nil, 5, []int{1, 3, 5}},
		{nil, 2, []int{2, 4}},
		{nil, 4, []int{2, 4}},
		{[]int{0}, 5, []int{5}},
		{[]int{0}, 3, []int{1, 3}},
		{[]int{1}, 5, []int{3, 5}},
		{[]int{2}, 4, []int{2, 4}},
		{[]int{3}, 4, []int{2, 4}},
		{[]int{2, 3}, 4, []int{4}},
	} {
		if got, e := Reach(n, closing(n, x.closed...), x.node); !slices.Equal(got, x.want) || e != api.OK {
			t.Errorf("%d: Reach from %d without %v = %v, %d, want %v", i, x.node, x.closed, got, e, x.want)
		}
	}
	if got, e := Reach(chain(), closing(chain()), 12); len(got) != api.MaxNodes || !slices.IsSorted(got) || e != api.OK {
		t.Errorf("Reach in a chain = %v, %d", got, e)
	}
}

// P13.2: the parts of a network.
func TestParts(t *testing.T) {
	n := joined(6, [2]int{5, 3}, [2]int{1, 3}, [2]int{4, 2}, [2]int{2, 4})
	for i, x := range []struct {
		network api.Network
		closed  []int
		want    [][]int
	}{
		{n, nil, [][]int{{0}, {1, 3, 5}, {2, 4}}},
		{n, []int{0}, [][]int{{0}, {1, 3}, {2, 4}, {5}}},
		{n, []int{1, 2}, [][]int{{0}, {1}, {2, 4}, {3, 5}}},
		{n, []int{0, 1, 2, 3}, [][]int{{0}, {1}, {2}, {3}, {4}, {5}}},
		{example(), nil, [][]int{{0, 1, 2}}},
		{example(), []int{2}, [][]int{{0, 1}, {2}}},
		{joined(1), nil, [][]int{{0}}},
		{joined(2), nil, [][]int{{0}, {1}}},
		{joined(2, [2]int{1, 0}), nil, [][]int{{0, 1}}},
	} {
		got, e := Parts(x.network, closing(x.network, x.closed...))
		if !slices.EqualFunc(got, x.want, slices.Equal[[]int]) || e != api.OK {
			t.Errorf("%d: Parts = %v, %d, want %v", i, got, e, x.want)
		}
	}
}

// P13.2: the segments that cut.
func TestCuts(t *testing.T) {
	circle := joined(4, [2]int{0, 1}, [2]int{2, 1}, [2]int{2, 0}, [2]int{3, 2})
	for i, x := range []struct {
		network api.Network
		closed  []int
		want    []bool // by segment
	}{
		{example(), nil, []bool{false, false, true}},
		{example(), []int{0}, []bool{false, true, true}},
		{example(), []int{1, 2}, []bool{true, false, false}},
		{example(), []int{0, 1, 2}, []bool{false, false, false}},
		{circle, nil, []bool{false, false, false, true}},
		{circle, []int{1}, []bool{true, false, true, true}},
		{circle, []int{3}, []bool{false, false, false, false}},
	} {
		closed := closing(x.network, x.closed...)
		for segment, want := range x.want {
			if got, e := Cuts(x.network, closed, segment); got != want || e != api.OK {
				t.Errorf("%d: segment %d cuts: %v, %d, want %v", i, segment, got, e, want)
			}
		}
	}
}

// P13.3: lengths of ways, over closed segments, too.
func TestLength(t *testing.T) {
	n := example()
	expectLength(t, n, nil, 0, api.OK)
	expectLength(t, n, []api.Hop{}, 0, api.OK)
	expectLength(t, n, []api.Hop{ahead(0)}, capacity(0), api.OK)
	expectLength(t, n, []api.Hop{back(1)}, capacity(1), api.OK)
	expectLength(t, n, []api.Hop{ahead(1), back(2)}, capacity(1)+capacity(2), api.OK)
	expectLength(t, n, []api.Hop{ahead(2), back(0)}, capacity(2)+capacity(0), api.OK)
	long := chain()
	var way []api.Hop
	for i := range long.Segments {
		long.Segments[i].Capacity = api.MaxCapacity
		long.Segments[i].Points[1].At = api.MaxCapacity
		way = append(way, ahead(i))
	}
	expectLength(t, long, way, (api.MaxNodes-1)*api.MaxCapacity, api.OK)
}

// P13.3: lists of hops that are no ways.
func TestLengthWay(t *testing.T) {
	n := joined(5, [2]int{0, 1}, [2]int{1, 2}, [2]int{2, 0}, [2]int{2, 3}, [2]int{0, 1}, [2]int{3, 4})
	for _, hops := range [][]api.Hop{
		{ahead(0), back(0)},
		{ahead(0), back(4)},
		{ahead(0), ahead(0)},
		{ahead(0), ahead(4)},
		{ahead(0), back(1)},
		{ahead(0), ahead(2)},
		{ahead(1), ahead(0)},
		{back(1), ahead(2)},
		{ahead(0), ahead(3)},
		{ahead(0), ahead(1), ahead(2)},
		{ahead(1), ahead(2), ahead(0)},
		{ahead(0), ahead(1), ahead(2), ahead(4)},
		{ahead(1), ahead(3), back(3), ahead(2)},
		{ahead(0), ahead(1), ahead(3), back(3)},
		{ahead(0), ahead(1), ahead(3), back(5)},
	} {
		expectLength(t, n, hops, 0, api.ErrWay)
	}
	expectLength(t, n, []api.Hop{ahead(0), ahead(1), ahead(3), ahead(5)}, capacity(0)+capacity(1)+capacity(3)+capacity(5), api.OK)
	expectLength(t, n, slices.Repeat([]api.Hop{ahead(0), back(0)}, 10000), 0, api.ErrWay)
}

// P13.1 to P13.3: the errors, in their order.
func TestErrors(t *testing.T) {
	n := example()
	unnamed := example()
	unnamed.Nodes[1] = ""
	unknown := example()
	unknown.Segments[2].To = 3
	for i, x := range []struct {
		network api.Network
		closed  []bool
		index   int
		want    api.Errno
		parts   api.Errno // that of Parts, which has no index
	}{
		{unnamed, nil, -1, api.ErrForm, api.ErrForm},
		{api.Network{}, nil, 0, api.ErrLimit, api.ErrLimit},
		{unknown, closing(n, 1, 2), 5, api.ErrUnknown, api.ErrUnknown},
		{n, nil, 0, api.ErrInvalid, api.ErrInvalid},
		{n, make([]bool, 2), -1, api.ErrInvalid, api.ErrInvalid},
		{n, make([]bool, 4), 3, api.ErrInvalid, api.ErrInvalid},
		{n, closing(n), -1, api.ErrUnknown, api.OK},
		{n, closing(n, 0, 1, 2), 3, api.ErrUnknown, api.OK},
		{n, closing(n), math.MaxInt, api.ErrUnknown, api.OK},
		{n, closing(n, 0, 1, 2), math.MinInt, api.ErrUnknown, api.OK},
	} {
		expectWay(t, x.network, x.closed, x.index, 0, nil, x.want)
		expectWay(t, x.network, x.closed, 0, x.index, nil, x.want)
		expectWay(t, x.network, x.closed, x.index, x.index, nil, x.want)
		if got, e := Reach(x.network, x.closed, x.index); len(got) > 0 || e != x.want {
			t.Errorf("%d: Reach = %v, %d, want the error %d", i, got, e, x.want)
		}
		if got, e := Cuts(x.network, x.closed, x.index); got || e != x.want {
			t.Errorf("%d: Cuts = %v, %d, want the error %d", i, got, e, x.want)
		}
		if got, e := Parts(x.network, x.closed); (len(got) > 0) != (e == api.OK) || e != x.parts {
			t.Errorf("%d: Parts = %v, %d, want the error %d", i, got, e, x.parts)
		}
	}
	// Nodes and segments have their own indices.
	two := joined(3, [2]int{0, 1}, [2]int{1, 2})
	if got, e := Cuts(two, closing(two), 2); got || e != api.ErrUnknown {
		t.Errorf("Cuts of segment 2 of 2 = %v, %d", got, e)
	}
	many := joined(2, [2]int{0, 1}, [2]int{1, 0}, [2]int{1, 0})
	if got, e := Cuts(many, closing(many), 2); got || e != api.OK {
		t.Errorf("Cuts of segment 2 of 3 = %v, %d", got, e)
	}
	if got, e := Reach(many, closing(many), 2); len(got) > 0 || e != api.ErrUnknown {
		t.Errorf("Reach from node 2 of 2 = %v, %d", got, e)
	}
}

// P13.3: the errors of Length, in their order: an unknown segment behind a hop that is no part of a way comes first.
func TestLengthErrors(t *testing.T) {
	n := example()
	invalid := example()
	invalid.Settle = -1
	expectLength(t, invalid, []api.Hop{ahead(9)}, 0, api.ErrInvalid)
	expectLength(t, api.Network{}, nil, 0, api.ErrLimit)
	for _, segment := range []int{-1, 3, math.MaxInt, math.MinInt} {
		for _, h := range []api.Hop{ahead(segment), back(segment)} {
			expectLength(t, n, []api.Hop{h}, 0, api.ErrUnknown)
			expectLength(t, n, []api.Hop{ahead(0), h}, 0, api.ErrUnknown)
			expectLength(t, n, []api.Hop{ahead(0), ahead(0), h}, 0, api.ErrUnknown)
			expectLength(t, n, []api.Hop{h, ahead(0), ahead(0)}, 0, api.ErrUnknown)
		}
	}
}

// anyNetwork is a network with so many nodes and segments.
func anyNetwork(r *rand.Rand, nodes, segments int) api.Network {
	var ends [][2]int
	for range segments {
		l := r.Perm(nodes)
		ends = append(ends, [2]int{l[0], l[1]})
	}
	return joined(nodes, ends...)
}

// anyClosed is a list of closed segments for n.
func anyClosed(r *rand.Rand, n api.Network) []bool {
	closed := make([]bool, len(n.Segments))
	share := r.Intn(4)
	for i := range closed {
		closed[i] = r.Intn(4) < share
	}
	return closed
}

// R2: arguments are neither changed nor kept, and results share no memory.
func TestMemory(t *testing.T) {
	n := joined(4, [2]int{0, 1}, [2]int{1, 2}, [2]int{2, 0})
	spare := []bool{false, false, false, true, false}
	closed := spare[:3]
	hops := []api.Hop{ahead(0), ahead(1), back(2)}
	Length(n, hops[:2])
	Way(n, closed, 0, 2)
	Reach(n, closed, 0)
	for segment := range closed {
		Cuts(n, closed, segment)
	}
	parts, _ := Parts(n, closed)
	if !slices.Equal(spare, []bool{false, false, false, true, false}) || hops[2] != back(2) {
		t.Error("arguments were changed")
	}
	first := parts[0]
	for i := range first[:cap(first)] {
		first[:cap(first)][i] = 9
	}
	if !slices.Equal(parts[1], []int{3}) {
		t.Errorf("parts share memory: %v", parts)
	}
}
