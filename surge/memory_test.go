package surge

import (
	"math/rand"
	"slices"
	"testing"

	"batchline/api"
)

// memory is the lists of which each one has others around it.
type memory struct{ all []any }

// keep returns list with others around it in the same memory, which m remembers.
func keep[T any](m *memory, list []T, other T) []T {
	around := slices.Concat([]T{other}, list, []T{other, other})
	m.all = append(m.all, around)
	return around[1 : 1+len(list)]
}

// network returns n with others around all of its lists.
func (m *memory) network(n api.Network) api.Network {
	n.Segments = slices.Clone(n.Segments)
	for i := range n.Segments {
		n.Segments[i].Points = keep(m, n.Segments[i].Points, api.Point{At: 77})
	}
	n.Nodes = keep(m, n.Nodes, "around")
	n.Segments = keep(m, n.Segments, api.Segment{Name: "around"})
	n.Ports = keep(m, n.Ports, api.Port{Name: "around"})
	n.Stations = keep(m, n.Stations, api.Station{Name: "around"})
	return n
}

// plan returns p with others around all of its lists.
func (m *memory) plan(p api.Plan) api.Plan {
	return api.Plan{Rates: keep(m, p.Rates, 77), Ports: keep(m, p.Ports, 77), Pumps: keep(m, p.Pumps, true)}
}

// work returns w with others around all of its lists.
func (m *memory) work(w work) work {
	var fills [][]api.Piece
	for _, f := range w.fills {
		fills = append(fills, keep(m, f, api.Piece{Batch: 77, Volume: 7}))
	}
	var changes []api.Change
	for _, c := range w.changes {
		changes = append(changes, at(c.Tick, m.plan(c.Plan)))
	}
	return work{
		n:        m.network(w.n),
		batches:  keep(m, w.batches, api.Batch{Product: 77}),
		products: keep(m, w.products, api.Product{Name: "around"}),
		fills:    keep(m, fills, []api.Piece{{Batch: 77}}),
		changes:  keep(m, changes, at(77, api.Plan{Rates: []int{77}})),
	}
}

// overwrite changes all of list, and its spare capacity.
func overwrite[T any](list []T, with T) {
	list = list[:cap(list)]
	for i := range list {
		list[i] = with
	}
}

// R2: arguments are left as they are, with what lies around them.
func TestArguments(t *testing.T) {
	r := rand.New(rand.NewSource(7))
	for i := range 200 {
		w := anyWork(r, sizes[i%len(sizes)])
		if i%9 == 0 {
			w.changes[len(w.changes)-1].Plan.Pumps = nil
		}
		var m memory
		arg := m.work(w)
		before := text(m.all)
		arg.safe()
		for _, c := range arg.changes {
			Groups(arg.n, arg.changes[0].Plan, c.Plan)
			Rise(arg.n, arg.changes[0].Plan, c.Plan)
		}
		if text(m.all) != before {
			t.Errorf("%.2999s became %.2999s", before, text(m.all))
		}
	}
}

// R2: a result keeps nothing of the arguments, nor of another result, and no two of its lists share memory.
func TestResults(t *testing.T) {
	r := rand.New(rand.NewSource(8))
	for i := range 200 {
		s := sizes[i%len(sizes)]
		n := anyNetwork(r, s)
		plans := []api.Plan{anyPlan(r, n, s.rate), anyPlan(r, n, s.rate)}
		groups, _ := Groups(n, plans[0], plans[1])
		rise, _ := Rise(n, plans[0], plans[1])
		before := text([]any{n, plans, groups, rise})
		again, _ := Groups(n, plans[0], plans[1])
		for _, g := range again {
			overwrite(g, 66)
		}
		overwrite(again, []int{66})
		other, _ := Rise(n, plans[0], plans[1])
		overwrite(other, 66)
		if after := text([]any{n, plans, groups, rise}); after != before {
			t.Errorf("with other results, %.2999s became %.2999s", before, after)
		}
		for k, g := range groups {
			others := text([][][]int{groups[:k], groups[k+1:]})
			overwrite(g, 66)
			if text([][][]int{groups[:k], groups[k+1:]}) != others {
				t.Errorf("with the group %d, others changed", k)
			}
		}
	}
}

// R3: the same arguments have the same results, whatever was called in between.
func TestSameResults(t *testing.T) {
	for range 3 {
		TestExample(t)
		work{}.expectError(t, api.ErrLimit)
		TestSafeExample(t)
		TestSafeGroups(t)
	}
}
