package paths

import (
	"math/rand"
	"slices"
	"testing"

	"batchline/api"
)

// memory is the lists of which each one has others around it.
type memory struct{ all []any }

// keep returns list with others around it in the same memory, which m remembers.
func keep[T any](m *memory, list []T, other T) []T {
	around := slices.Concat([]T{other}, list, []T{other, other})
	m.all = append(m.all, around)
	return around[1 : 1+len(list)]
}

// network returns n with others around all of its lists.
func (m *memory) network(n api.Network) api.Network {
	n.Segments = slices.Clone(n.Segments)
	for i := range n.Segments {
		n.Segments[i].Points = keep(m, n.Segments[i].Points, api.Point{At: 77})
	}
	n.Nodes = keep(m, n.Nodes, "around")
	n.Segments = keep(m, n.Segments, api.Segment{Name: "around"})
	n.Ports = keep(m, n.Ports, api.Port{Name: "around"})
	n.Stations = keep(m, n.Stations, api.Station{Name: "around"})
	return n
}

// plan returns p with others around all of its lists.
func (m *memory) plan(p api.Plan) api.Plan {
	return api.Plan{Rates: keep(m, p.Rates, 77), Ports: keep(m, p.Ports, 77), Pumps: keep(m, p.Pumps, true)}
}

// path returns p with others around its hops.
func (m *memory) path(p api.Path) api.Path {
	p.Hops = keep(m, p.Hops, api.Hop{Segment: 77})
	return p
}

// paths returns l with others around it, and around the hops of each path.
func (m *memory) paths(l []api.Path) []api.Path {
	l = slices.Clone(l)
	for i := range l {
		l[i] = m.path(l[i])
	}
	return keep(m, l, path(77, 77, 77, 77))
}

// anyCall is a call without an error.
func anyCall(r *rand.Rand) call {
	for {
		n := anyNetwork(r)
		c := call{n: n, p: anyPlan(r, n), pumps: anyPumps(r, n)}
		c.l, _ = Divide(n, c.p)
		if len(n.Segments) > 0 && len(c.l) > 1 {
			c.segment = r.Intn(len(n.Segments))
			return c
		}
	}
}

// R2: arguments are left as they are, with what lies around them.
func TestArguments(t *testing.T) {
	r := rand.New(rand.NewSource(5))
	for i := range 300 {
		c := anyCall(r)
		some := part(r, c.l)
		switch i % 6 {
		case 0:
			c.l[0].Rate = 1001
		case 1:
			c.p.Rates[0]++
		case 2:
			c.pumps = append(c.pumps, true)
		case 3:
			c.segment = -1
		}
		var m memory
		n, p, l, b, pumps := m.network(c.n), m.plan(c.p), m.paths(c.l), m.paths(some), keep(&m, c.pumps, true)
		single := m.path(c.l[0])
		before := text(m.all)
		Valid(n, single)
		Divide(n, p)
		Sum(n, l, pumps)
		Common(l, b)
		Common(b, l)
		Less(l, b)
		Less(b, l)
		Through(n, l, c.segment)
		if text(m.all) != before {
			t.Errorf("%.2999s became %.2999s", before, text(m.all))
		}
	}
}

// results are all lists that the functions return for a call without an error.
type results struct {
	sum   api.Plan
	paths [][]api.Path
}

// resultsOf returns what the functions return for c, with a part of its paths.
func resultsOf(c call, some []api.Path) results {
	var x results
	x.sum, _ = Sum(c.n, c.l, c.pumps)
	divided, _ := Divide(c.n, c.p)
	rest, _ := Less(c.l, some)
	through, _ := Through(c.n, c.l, c.segment)
	x.paths = [][]api.Path{divided, Common(c.l, some), Common(some, c.l), rest, through}
	return x
}

// overwrite changes all of list, and its spare capacity.
func overwrite[T any](list []T, other T) {
	list = list[:cap(list)]
	for i := range list {
		list[i] = other
	}
}

// overwritePaths changes all of l, with the hops of its paths.
func overwritePaths(l []api.Path) {
	for _, p := range l {
		overwrite(p.Hops, api.Hop{Segment: 77, Back: true})
	}
	overwrite(l, path(77, 77, 77, 77))
}

// R2: a result keeps nothing of the arguments, nor of another result.
func TestResults(t *testing.T) {
	r := rand.New(rand.NewSource(6))
	for range 300 {
		c := anyCall(r)
		some := part(r, c.l)
		first := resultsOf(c, some)
		before := text([]any{c, some, first})
		again := resultsOf(c, some)
		if text(again) != text(first) {
			t.Errorf("%.2999s became %.2999s", text(first), text(again))
		}
		overwrite(again.sum.Rates, 77)
		overwrite(again.sum.Ports, 77)
		for i := range again.sum.Pumps {
			again.sum.Pumps[i] = !again.sum.Pumps[i]
		}
		for _, l := range again.paths {
			overwritePaths(l)
		}
		if after := text([]any{c, some, first}); after != before {
			t.Errorf("with other results, %.2999s became %.2999s", before, after)
		}
	}
}

// R2: no two lists of one result share memory.
func TestApart(t *testing.T) {
	r := rand.New(rand.NewSource(7))
	for range 200 {
		c := anyCall(r)
		for _, l := range resultsOf(c, part(r, c.l)).paths {
			for i := range l {
				before := text(l[i+1:])
				overwrite(l[i].Hops, api.Hop{Segment: 77, Back: true})
				if text(l[i+1:]) != before {
					t.Errorf("%.999s became %.999s with the hops of another path", before, text(l[i+1:]))
				}
			}
		}
		sum, _ := Sum(c.n, c.l, c.pumps)
		ports := slices.Clone(sum.Ports)
		overwrite(sum.Rates, 77)
		if !slices.Equal(sum.Ports, ports) {
			t.Errorf("the ports %v became %v with the segments", ports, sum.Ports)
		}
		rates := slices.Clone(sum.Rates)
		overwrite(sum.Ports, 78)
		if !slices.Equal(sum.Rates, rates) {
			t.Errorf("the segments %v became %v with the ports", rates, sum.Rates)
		}
	}
}

// R3: the same arguments have the same results, whatever was called in between.
func TestSameResults(t *testing.T) {
	for range 3 {
		TestExample(t)
		TestDivide(t)
		TestZero(t)
		TestSum(t)
		TestCommon(t)
		TestLess(t)
		TestThrough(t)
	}
}
