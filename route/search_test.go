package route

import (
	"cmp"
	"math/rand"
	"slices"
	"testing"

	"batchline/api"
)

// allWays are all ways from a node to another one that avoid the visited nodes, found by trying every hop.
func allWays(n api.Network, closed []bool, from, to int, visited []int) [][]api.Hop {
	if from == to {
		return [][]api.Hop{nil}
	}
	var ways [][]api.Hop
	visited = append(slices.Clone(visited), from)
	for i, s := range n.Segments {
		if closed[i] || s.From != from && s.To != from {
			continue
		}
		h, next := ahead(i), s.To
		if s.To == from {
			h, next = back(i), s.From
		}
		if slices.Contains(visited, next) {
			continue
		}
		for _, way := range allWays(n, closed, next, to, visited) {
			ways = append(ways, append([]api.Hop{h}, way...))
		}
	}
	return ways
}

// compareWays compares two ways as the chapter does.
func compareWays(a, b []api.Hop) int {
	return cmp.Or(cmp.Compare(len(a), len(b)), slices.CompareFunc(a, b, func(x, y api.Hop) int {
		return cmp.Compare(x.Segment, y.Segment)
	}))
}

// P13.1, P13.3: in small networks, the way is the least one of all, and each one has its length.
func TestWayAgainstAll(t *testing.T) {
	r := rand.New(rand.NewSource(1))
	for range 3000 {
		n := anyNetwork(r, 2+r.Intn(5), r.Intn(10))
		closed := anyClosed(r, n)
		from, to := r.Intn(len(n.Nodes)), r.Intn(len(n.Nodes))
		ways := allWays(n, closed, from, to, nil)
		if len(ways) == 0 {
			expectWay(t, n, closed, from, to, nil, api.ErrWay)
			continue
		}
		expectWay(t, n, closed, from, to, slices.MinFunc(ways, compareWays), api.OK)
		for _, way := range ways {
			sum := 0
			for _, h := range way {
				sum += capacity(h.Segment)
			}
			expectLength(t, n, way, sum, api.OK)
		}
	}
}

// P13.3: any hops have a length exactly if they are one of all ways.
func TestLengthAgainstAll(t *testing.T) {
	r := rand.New(rand.NewSource(2))
	right := 0
	for range 2000 {
		n := anyNetwork(r, 2+r.Intn(3), 1+r.Intn(4))
		var hops []api.Hop
		for range 1 + r.Intn(3) {
			hops = append(hops, api.Hop{Segment: r.Intn(len(n.Segments)), Back: r.Intn(2) == 0})
		}
		want, sum := api.ErrWay, 0
		for from := range n.Nodes {
			for to := range n.Nodes {
				for _, way := range allWays(n, closing(n), from, to, nil) {
					if slices.Equal(way, hops) {
						want = api.OK
						right++
					}
				}
			}
		}
		for _, h := range hops {
			if want == api.OK {
				sum += capacity(h.Segment)
			}
		}
		expectLength(t, n, hops, sum, want)
	}
	if right < 100 {
		t.Errorf("only %d lists were ways", right)
	}
}

// P13.1, P13.2: the consequences of the chapter, in networks of all sizes.
func TestConsequences(t *testing.T) {
	r := rand.New(rand.NewSource(3))
	for range 300 {
		n := anyNetwork(r, 2+r.Intn(api.MaxNodes-1), r.Intn(api.MaxSegments+1))
		closed := anyClosed(r, n)
		parts, e := Parts(n, closed)
		if e != api.OK || !slices.IsSortedFunc(parts, func(a, b []int) int { return cmp.Compare(a[0], b[0]) }) {
			t.Fatalf("Parts = %v, %d", parts, e)
		}
		all := slices.Concat(parts...)
		slices.Sort(all)
		if len(all) != len(n.Nodes) || len(slices.Compact(all)) != len(n.Nodes) {
			t.Fatalf("the parts %v have not each of %d nodes once", parts, len(n.Nodes))
		}
		partOf := map[int]int{}
		for i, part := range parts {
			for _, node := range part {
				partOf[node] = i
				if reach, _ := Reach(n, closed, node); !slices.Equal(reach, part) {
					t.Errorf("Reach(%d) = %v, its part is %v", node, reach, part)
				}
			}
		}
		for from := range n.Nodes {
			for to := range n.Nodes {
				way, e := Way(n, closed, from, to)
				if (e == api.OK) != (partOf[from] == partOf[to]) {
					t.Errorf("Way from %d to %d has the error %d, the parts are %v", from, to, e, parts)
				}
				if _, e := Length(n, way); e != api.OK {
					t.Errorf("Length(%v) has the error %d", way, e)
				}
				other, _ := Way(n, closed, to, from)
				if len(way) != len(other) {
					t.Errorf("the ways %v and %v have different numbers of hops", way, other)
				}
			}
		}
		for segment := range n.Segments {
			cuts, e := Cuts(n, closed, segment)
			without := slices.Clone(closed)
			without[segment] = true
			more, _ := Parts(n, without)
			if e != api.OK || len(more) < len(parts) || cuts != (len(more) == len(parts)+1) {
				t.Errorf("Cuts(%d) = %v, %d, with %d parts, and %d without it", segment, cuts, e, len(parts), len(more))
			}
		}
	}
}
