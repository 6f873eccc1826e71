package steady

import (
	"math/rand"
	"slices"
	"testing"

	"batchline/api"
)

// roomy is list with others around it in the same memory, and all that is in this memory.
func roomy[T any](list []T, other T) (inside, around []T) {
	around = slices.Concat([]T{other}, list, []T{other, other})
	return around[1 : 1+len(list)], around
}

// memory is the lists of which each one has others around it.
type memory struct{ all []any }

// keep returns list with others around it in the same memory, which m remembers.
func keep[T any](m *memory, list []T, other T) []T {
	inside, around := roomy(list, other)
	m.all = append(m.all, around)
	return inside
}

// keepAll does so for each of some lists, and for the list of them.
func keepAll[T any](m *memory, lists [][]T, other T) [][]T {
	var all [][]T
	for _, list := range lists {
		all = append(all, keep(m, list, other))
	}
	return keep(m, all, []T{other})
}

// network returns n with others around all of its lists.
func (m *memory) network(n api.Network) api.Network {
	n.Segments = slices.Clone(n.Segments)
	for i := range n.Segments {
		n.Segments[i].Points = keep(m, n.Segments[i].Points, api.Point{At: 77})
	}
	n.Nodes = keep(m, n.Nodes, "around")
	n.Segments = keep(m, n.Segments, api.Segment{Name: "around"})
	n.Ports = keep(m, n.Ports, api.Port{Name: "around"})
	n.Stations = keep(m, n.Stations, api.Station{Name: "around"})
	return n
}

// work returns w with others around all of its lists.
func (m *memory) work(w work) work {
	return work{
		n:        m.network(w.n),
		batches:  keep(m, w.batches, api.Batch{Product: 77}),
		products: keep(m, w.products, api.Product{Name: "around"}),
		fills:    keepAll(m, w.fills, api.Piece{Batch: 77, Volume: 7}),
		p:        m.plan(w.p),
	}
}

// plan returns p with others around all of its lists.
func (m *memory) plan(p api.Plan) api.Plan {
	return api.Plan{Rates: keep(m, p.Rates, 77), Ports: keep(m, p.Ports, 77), Pumps: keep(m, p.Pumps, true)}
}

// pressures returns x with others around all of its lists.
func (m *memory) pressures(x api.Pressures) api.Pressures {
	return api.Pressures{
		Known:    keep(m, x.Known, true),
		Nodes:    keep(m, x.Nodes, api.Bounds{Low: 77, High: 7}),
		Segments: keepAll(m, x.Segments, api.Level{At: 7}),
	}
}

// overwrite changes all of list, and its spare capacity.
func overwrite[T any](list []T, with T) {
	list = list[:cap(list)]
	for i := range list {
		list[i] = with
	}
}

// R2: arguments are left as they are, with what lies around them.
func TestArguments(t *testing.T) {
	r := rand.New(rand.NewSource(27))
	for i := range 200 {
		w := anyWork(r, sizes[i%len(sizes)])
		if i%9 == 0 && len(w.fills) > 0 {
			w.fills[0] = nil
		}
		var m memory
		arg := m.work(w)
		x, _ := w.solve()
		levels, extra := m.pressures(x), keep(&m, make([]int, len(w.n.Segments)), 77)
		before := text(m.all)
		arg.solve()
		Check(arg.n, arg.batches, arg.products, arg.fills, arg.p)
		Break(arg.n, levels, arg.p, extra)
		if text(m.all) != before {
			t.Errorf("%.2999s became %.2999s", before, text(m.all))
		}
	}
}

// R2: a result keeps nothing of the arguments, and no two of its lists share memory.
func TestResults(t *testing.T) {
	r := rand.New(rand.NewSource(28))
	for i := range 200 {
		w := anyWork(r, sizes[i%len(sizes)])
		x, _ := w.solve()
		before, lists := text(x), text(w)
		again, _ := w.solve()
		overwrite(again.Known, true)
		overwrite(again.Nodes, api.Bounds{Low: 66, High: 66})
		for _, l := range again.Segments {
			overwrite(l, api.Level{At: 66})
		}
		overwrite(again.Segments, []api.Level{{At: 66}})
		if text(x) != before || text(w) != lists {
			t.Errorf("with another result, %.2999s became %.2999s", before, text(x))
		}
		for i, l := range x.Segments {
			others := text([][][]api.Level{x.Segments[:i], x.Segments[i+1:]})
			overwrite(l, api.Level{At: 66})
			if text([][][]api.Level{x.Segments[:i], x.Segments[i+1:]}) != others {
				t.Errorf("with the levels of segment %d, others changed", i)
			}
		}
	}
}

// R3: the same arguments have the same results, whatever was called in between.
func TestSameResults(t *testing.T) {
	for range 3 {
		TestExample(t)
		work{}.expectError(t, api.ErrLimit)
		kept().expect(t, none)
		crossing().expectCheck(t, api.Fault{}, api.OK)
	}
}
