package paths

import (
	"math/rand"
	"slices"
	"testing"

	"batchline/api"
	"batchline/flow"
)

// hopEnds are the nodes at which a hop begins and ends.
func hopEnds(n api.Network, h api.Hop) [2]int {
	ends := [2]int{n.Segments[h.Segment].From, n.Segments[h.Segment].To}
	if h.Back {
		slices.Reverse(ends[:])
	}
	return ends
}

// allHops are the hops over all segments of n, in both directions.
func allHops(n api.Network) []api.Hop {
	var all []api.Hop
	for i := range n.Segments {
		all = append(all, api.Hop{Segment: i}, api.Hop{Segment: i, Back: true})
	}
	return all
}

// waysFrom gives each way on from the last one of nodes that passes none of them, as hops behind these, to give.
func waysFrom(n api.Network, nodes []int, way []api.Hop, give func(way []api.Hop, end int)) {
	last := nodes[len(nodes)-1]
	give(way, last)
	for _, h := range allHops(n) {
		ends := hopEnds(n, h)
		if ends[0] == last && !slices.Contains(nodes, ends[1]) {
			waysFrom(n, append(slices.Clone(nodes), ends[1]), append(slices.Clone(way), h), give)
		}
	}
}

// everyList gives each list of at most so many of these hops to give.
func everyList(all []api.Hop, most int, list []api.Hop, give func(list []api.Hop)) {
	give(list)
	for _, h := range all {
		if len(list) < most {
			everyList(all, most, append(slices.Clone(list), h), give)
		}
	}
}

// P25.1: every short list of hops between every two ports, against all ways that there are.
func TestEveryPath(t *testing.T) {
	for _, n := range []api.Network{
		build(3, [][2]int{{0, 1}, {2, 1}, {0, 2}}, 0, 1, 2, 0),
		build(4, [][2]int{{0, 1}, {1, 2}, {1, 0}, {2, 3}}, 0, 3, 1),
		build(2, [][2]int{{0, 1}, {1, 0}, {0, 1}}, 0, 1, 1),
	} {
		ways := map[[2]int]map[string]bool{}
		for node := range n.Nodes {
			waysFrom(n, []int{node}, nil, func(way []api.Hop, end int) {
				if ways[[2]int{node, end}] == nil {
					ways[[2]int{node, end}] = map[string]bool{}
				}
				ways[[2]int{node, end}][text(way)] = true
			})
		}
		for in, a := range n.Ports {
			for out, b := range n.Ports {
				everyList(allHops(n), 4, nil, func(list []api.Hop) {
					want := in != out && ways[[2]int{a.Node, b.Node}][text(list)]
					expectValid(t, n, api.Path{In: in, Out: out, Rate: 1, Hops: list}, want)
				})
			}
		}
	}
}

// litre takes one litre of what is left, from the node on, by the definition, and returns its hops and the port where it leaves.
func litre(n api.Network, left api.Plan, node int) ([]api.Hop, int) {
	for out, port := range n.Ports {
		if port.Node == node && left.Ports[out] < 0 {
			left.Ports[out]++
			return nil, out
		}
	}
	for i, s := range n.Segments {
		if s.From == node && left.Rates[i] > 0 {
			left.Rates[i]--
			way, out := litre(n, left, s.To)
			return append([]api.Hop{{Segment: i}}, way...), out
		}
		if s.To == node && left.Rates[i] < 0 {
			left.Rates[i]++
			way, out := litre(n, left, s.From)
			return append([]api.Hop{{Segment: i, Back: true}}, way...), out
		}
	}
	panic("nothing leaves the node")
}

// dividedByLitres are the paths of a plan, litre by litre; those of one path come one behind the other.
func dividedByLitres(n api.Network, p api.Plan) []api.Path {
	left := api.Plan{Rates: slices.Clone(p.Rates), Ports: slices.Clone(p.Ports)}
	var list []api.Path
	for {
		in := slices.IndexFunc(left.Ports, func(rate int) bool { return rate > 0 })
		if in < 0 {
			return list
		}
		left.Ports[in]--
		way, out := litre(n, left, n.Ports[in].Node)
		if last := len(list) - 1; last >= 0 && list[last].In == in && list[last].Out == out && slices.Equal(list[last].Hops, way) {
			list[last].Rate++
		} else {
			list = append(list, api.Path{In: in, Out: out, Hops: way, Rate: 1})
		}
	}
}

// anyNetwork is one of any size, often of few nodes with many segments.
func anyNetwork(r *rand.Rand) api.Network {
	nodes := 2 + r.Intn([]int{3, 6, 6, api.MaxNodes - 1}[r.Intn(4)])
	segments := make([][2]int, r.Intn(api.MaxSegments+1))
	for i := range segments {
		ends := r.Perm(nodes)
		segments[i] = [2]int{ends[0], ends[1]}
	}
	ports := make([]int, r.Intn(api.MaxPorts+1))
	for i := range ports {
		ports[i] = r.Intn(nodes)
	}
	n := build(nodes, segments, ports...)
	if r.Intn(2) > 0 {
		n.Stations = []api.Station{{Name: "pumps", Node: r.Intn(nodes)}}
	}
	return n
}

// anyPath is a valid path of n, over segments that all lead down a list of the nodes if there is one; false if none was found.
func anyPath(r *rand.Rand, n api.Network, down []int) (api.Path, bool) {
	if len(n.Ports) < 2 {
		return api.Path{}, false
	}
	p := api.Path{In: r.Intn(len(n.Ports)), Rate: 1 + r.Intn(30)}
	nodes := []int{n.Ports[p.In].Node}
	for {
		node := nodes[len(nodes)-1]
		for _, out := range r.Perm(len(n.Ports)) {
			if out != p.In && n.Ports[out].Node == node && r.Intn(4) == 0 {
				p.Out = out
				return p, true
			}
		}
		all := allHops(n)
		all = slices.DeleteFunc(all, func(h api.Hop) bool {
			ends := hopEnds(n, h)
			return ends[0] != node || slices.Contains(nodes, ends[1]) || down != nil && down[ends[1]] < down[node]
		})
		if len(all) == 0 {
			return api.Path{}, false
		}
		h := all[r.Intn(len(all))]
		p.Hops, nodes = append(p.Hops, h), append(nodes, hopEnds(n, h)[1])
	}
}

// somePaths are valid paths of n that flow down a list of its nodes, each port either in or out.
func somePaths(r *rand.Rand, n api.Network, down []int, most int) []api.Path {
	ins := make([]bool, len(n.Ports))
	for i := range ins {
		ins[i] = r.Intn(2) > 0
	}
	count := r.Intn(most + 1)
	var list []api.Path
	for range 8 * count { // most of them do not fit
		if p, ok := anyPath(r, n, down); ok && ins[p.In] && !ins[p.Out] && len(list) < count {
			list = append(list, p)
		}
	}
	return list
}

// added is the plan of paths, by the definition.
func added(n api.Network, l []api.Path, pumps []bool) api.Plan {
	sum := api.Plan{Rates: make([]int, len(n.Segments)), Ports: make([]int, len(n.Ports)), Pumps: pumps}
	for _, p := range l {
		for i := range n.Ports {
			switch i {
			case p.In:
				sum.Ports[i] += p.Rate
			case p.Out:
				sum.Ports[i] -= p.Rate
			}
		}
		for i := range n.Segments {
			if slices.Contains(p.Hops, api.Hop{Segment: i}) {
				sum.Rates[i] += p.Rate
			}
			if slices.Contains(p.Hops, api.Hop{Segment: i, Back: true}) {
				sum.Rates[i] -= p.Rate
			}
		}
	}
	return sum
}

// anyPumps are some for n.
func anyPumps(r *rand.Rand, n api.Network) []bool {
	pumps := make([]bool, len(n.Stations))
	for i := range pumps {
		pumps[i] = r.Intn(2) > 0
	}
	return pumps
}

// anyPlan is a valid plan for n.
func anyPlan(r *rand.Rand, n api.Network) api.Plan {
	return added(n, somePaths(r, n, r.Perm(len(n.Nodes)), 30), anyPumps(r, n))
}

// part is some of the paths of l, with rates of at most theirs.
func part(r *rand.Rand, l []api.Path) []api.Path {
	var some []api.Path
	for _, p := range l {
		if r.Intn(3) > 0 {
			p.Rate = 1 + r.Intn(p.Rate)
			some = append(some, p)
		}
	}
	return some
}

// P25.1, P25.2: the paths of any plans, against the definition, litre by litre, and the consequences.
func TestDivideAny(t *testing.T) {
	r := rand.New(rand.NewSource(1))
	most, crossed := 0, 0
	for range 4000 {
		n := anyNetwork(r)
		p := anyPlan(r, n)
		if e := flow.Check(n, p); e != api.OK {
			t.Fatalf("the plan %.999s for %.999s has the error %d", text(p), text(n), e)
		}
		want := dividedByLitres(n, p)
		expectDivide(t, n, p, want...)
		most = max(most, len(want))
		seen := map[string]bool{}
		for _, x := range want {
			expectValid(t, n, x, true)
			x.Rate = 0
			if seen[text(x)] {
				t.Errorf("Divide of %.999s, %.999s has alike paths", text(n), text(p))
			}
			seen[text(x)] = true
			if len(x.Hops) > 1 {
				crossed++
			}
		}
		if e := flow.Check(n, added(n, part(r, want), p.Pumps)); e != api.OK {
			t.Errorf("a part of %.999s has the error %d", text(want), e)
		}
		some := part(r, want)
		expectSum(t, n, some, added(n, some, p.Pumps))
	}
	if most < 20 || crossed < 1500 {
		t.Errorf("at most %d paths, and %d over several segments", most, crossed)
	}
}

// bothWays reports whether paths flow through a segment both ways, by the definition.
func bothWays(l []api.Path) bool {
	for _, a := range l {
		for _, b := range l {
			for _, h := range a.Hops {
				if slices.Contains(b.Hops, api.Hop{Segment: h.Segment, Back: !h.Back}) {
					return true
				}
			}
		}
	}
	return false
}

// P25.2: the sums of any lists of paths, against the definition.
func TestSumAny(t *testing.T) {
	r := rand.New(rand.NewSource(2))
	count := map[api.Errno]int{}
	for range 6000 {
		n := anyNetwork(r)
		for i := range n.Segments {
			if r.Intn(9) == 0 {
				n.Segments[i].Capacity, n.Segments[i].Points[1].At = 20, 20
			}
		}
		var l []api.Path
		for range r.Intn(12) {
			if p, ok := anyPath(r, n, nil); ok {
				l = append(l, p)
			}
		}
		pumps := anyPumps(r, n)
		want := api.ErrPath
		if !bothWays(l) {
			want = flow.Check(n, added(n, l, pumps))
		}
		count[want]++
		if want == api.OK {
			expectSum(t, n, l, added(n, l, pumps))
		} else {
			expectSumError(t, n, l, pumps, want)
		}
	}
	if min(count[api.OK], count[api.ErrPath], count[api.ErrRange], count[api.ErrCycle]) < 50 {
		t.Errorf("errors of the sums: %v", count)
	}
}

// rates are those of paths, by what they are alike in.
func rates(l []api.Path) map[string]int {
	of := map[string]int{}
	for _, p := range l {
		rate := p.Rate
		p.Rate = 0
		of[text(p)] = rate
	}
	return of
}

// rateIn is the rate of the path that is alike p, 0 if there is none.
func rateIn(of map[string]int, p api.Path) int {
	p.Rate = 0
	return of[text(p)]
}

// expectTwo checks Common and Less of two lists, which have no alike paths, by the definitions, and the consequences; it returns whether b was taken from a.
func expectTwo(t *testing.T, a, b []api.Path) bool {
	t.Helper()
	inA, inB := rates(a), rates(b)
	var common, rest []api.Path
	for _, p := range a {
		x := p
		if x.Rate = min(p.Rate, rateIn(inB, p)); x.Rate > 0 {
			common = append(common, x)
		}
		x = p
		if x.Rate -= rateIn(inB, p); x.Rate > 0 {
			rest = append(rest, x)
		}
	}
	expectCommon(t, a, b, common...)
	for _, list := range [][]api.Path{a, b} {
		if _, ok := Less(list, common); !ok {
			t.Errorf("%.999s is no part of %.999s", text(common), text(list))
		}
	}
	for _, p := range b {
		if p.Rate > rateIn(inA, p) {
			expectNotLess(t, a, b)
			return false
		}
	}
	expectLess(t, a, b, rest...)
	return true
}

// P25.3: what any two lists have in common, and what one of them is without the other, against the definitions.
func TestTwoAny(t *testing.T) {
	r := rand.New(rand.NewSource(3))
	count := map[bool]int{}
	for range 3000 {
		n := anyNetwork(r)
		down := r.Perm(len(n.Nodes))
		p := added(n, somePaths(r, n, down, 20), anyPumps(r, n))
		q := added(n, somePaths(r, n, down, 20), anyPumps(r, n))
		a, b := dividedByLitres(n, p), dividedByLitres(n, q)
		r.Shuffle(len(b), func(i, k int) { b[i], b[k] = b[k], b[i] })
		expectTwo(t, a, b)
		some := part(r, a)
		r.Shuffle(len(some), func(i, k int) { some[i], some[k] = some[k], some[i] })
		if len(some) > 0 && r.Intn(2) > 0 {
			some[r.Intn(len(some))].Rate += r.Intn(20)
		}
		if len(a) > 2 {
			count[expectTwo(t, a, some)]++
		}
		rest, ok := Less(a, some)
		if !ok {
			continue
		}
		whole, e := Sum(n, slices.Concat(rest, some), p.Pumps)
		if !samePlan(whole, p) || e != api.OK {
			t.Errorf("%.999s and %.999s are not %.999s", text(rest), text(some), text(p))
		}
	}
	if min(count[false], count[true]) < 300 {
		t.Errorf("lists that were taken away, and not: %v", count)
	}
}

// P25.3: the paths over each segment of any networks, against the definition; they are what flows through it.
func TestThroughAny(t *testing.T) {
	r := rand.New(rand.NewSource(4))
	for range 600 {
		n := anyNetwork(r)
		p := anyPlan(r, n)
		l := dividedByLitres(n, p)
		for i := range n.Segments {
			var want []api.Path
			rate := 0
			for _, x := range l {
				if slices.Contains(x.Hops, api.Hop{Segment: i}) || slices.Contains(x.Hops, api.Hop{Segment: i, Back: true}) {
					want = append(want, x)
					rate += x.Rate
				}
			}
			expectThrough(t, n, l, i, want...)
			if rate != max(p.Rates[i], -p.Rates[i]) {
				t.Errorf("the paths over the segment %d have the rate %d, it has %d", i, rate, p.Rates[i])
			}
		}
	}
}
