package lineup

import (
	"math/rand"
	"slices"
	"testing"

	"batchline/api"
)

// memory is the lists of which each one has others around it.
type memory struct{ all []any }

// keep returns list with others around it in the same memory, which m remembers.
func keep[T any](m *memory, list []T, other T) []T {
	around := slices.Concat([]T{other}, list, []T{other, other})
	m.all = append(m.all, around)
	return around[1 : 1+len(list)]
}

// network returns n with others around all of its lists.
func (m *memory) network(n api.Network) api.Network {
	n.Segments = slices.Clone(n.Segments)
	for i := range n.Segments {
		n.Segments[i].Points = keep(m, n.Segments[i].Points, api.Point{At: 77})
	}
	n.Nodes = keep(m, n.Nodes, "around")
	n.Segments = keep(m, n.Segments, api.Segment{Name: "around"})
	n.Ports = keep(m, n.Ports, api.Port{Name: "around"})
	n.Stations = keep(m, n.Stations, api.Station{Name: "around"})
	return n
}

// plan returns p with others around all of its lists.
func (m *memory) plan(p api.Plan) api.Plan {
	return api.Plan{Rates: keep(m, p.Rates, 77), Ports: keep(m, p.Ports, 77), Pumps: keep(m, p.Pumps, true)}
}

// lineup returns l with others around both of its lists.
func (m *memory) lineup(l api.Lineup, other bool) api.Lineup {
	return api.Lineup{Segments: keep(m, l.Segments, other), Ports: keep(m, l.Ports, other)}
}

// anyCall is a call without an error.
func anyCall(r *rand.Rand) call {
	n := anyNetwork(r)
	c := call{n: n, p: anyPlan(r, n)}
	c.l, _ = Need(n, c.p)
	c.b = anyLineup(r, c.l)
	for range valves(n) {
		c.valves = append(c.valves, api.Valve{Travel: 3, Open: r.Intn(4)})
	}
	return c
}

// R2: arguments are left as they are, with what lies around them.
func TestArguments(t *testing.T) {
	r := rand.New(rand.NewSource(4))
	for i := range 400 {
		c := anyCall(r)
		if i%5 == 0 {
			c.b.Ports = append(c.b.Ports, true)
		}
		if i%7 == 0 {
			c.p.Rates = nil
		}
		var m memory
		n, p, l, b := m.network(c.n), m.plan(c.p), m.lineup(c.l, i%2 > 0), m.lineup(c.b, i%2 == 0)
		list := keep(&m, c.valves, api.Valve{Travel: 77})
		before := text(m.all)
		Valid(n, l)
		Need(n, p)
		Of(n, list)
		Permits(n, l, p)
		Permits(n, b, p)
		Changes(n, l, b)
		Changes(n, b, l)
		Shut(n, b)
		if text(m.all) != before {
			t.Errorf("%.2999s became %.2999s", before, text(m.all))
		}
	}
}

// negate changes all of list, and its spare capacity.
func negate(list []bool) {
	list = list[:cap(list)]
	for i := range list {
		list[i] = !list[i]
	}
}

// overwrite changes all of list, and its spare capacity.
func overwrite(list []int) {
	list = list[:cap(list)]
	for i := range list {
		list[i] = 77
	}
}

// results are all lists that the functions return for a call without an error.
type results struct {
	need, of      api.Lineup
	opens, closes []int
	shut          []bool
}

// resultsOf returns what the functions return for c.
func resultsOf(c call) results {
	var x results
	x.need, _ = Need(c.n, c.p)
	x.of, _ = Of(c.n, c.valves)
	x.opens, x.closes, _ = Changes(c.n, c.l, c.b)
	x.shut, _ = Shut(c.n, c.l)
	return x
}

// R2: a result keeps nothing of the arguments, nor of another result, and no two of its lists share memory.
func TestResults(t *testing.T) {
	r := rand.New(rand.NewSource(5))
	for range 400 {
		c := anyCall(r)
		first := resultsOf(c)
		before := text([]any{c, first})
		again := resultsOf(c)
		for _, list := range [][]bool{again.need.Segments, again.need.Ports, again.of.Segments, again.of.Ports, again.shut} {
			negate(list)
		}
		overwrite(again.opens)
		overwrite(again.closes)
		if after := text([]any{c, first}); after != before {
			t.Errorf("with other results, %.2999s became %.2999s", before, after)
		}
		expectApart(t, first.need)
		expectApart(t, first.of)
		closes := slices.Clone(first.closes)
		overwrite(first.opens)
		if !slices.Equal(first.closes, closes) {
			t.Errorf("what closes, %v, became %v with what opens", closes, first.closes)
		}
	}
}

// expectApart checks that the two lists of l share no memory.
func expectApart(t *testing.T, l api.Lineup) {
	t.Helper()
	ports := slices.Clone(l.Ports)
	negate(l.Segments)
	if !slices.Equal(l.Ports, ports) {
		t.Errorf("the ports %v became %v with the segments", ports, l.Ports)
	}
	segments := slices.Clone(l.Segments)
	negate(l.Ports)
	if !slices.Equal(l.Segments, segments) {
		t.Errorf("the segments %v became %v with the ports", segments, l.Segments)
	}
}

// R3: the same arguments have the same results, whatever was called in between.
func TestSameResults(t *testing.T) {
	for range 3 {
		TestExample(t)
		TestChanges(t)
		TestZero(t)
		TestOf(t)
		TestShut(t)
	}
}
