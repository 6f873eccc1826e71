package step

import (
	"math/rand"
	"slices"
	"testing"

	"batchline/api"
)

// memory is the lists of which each one has others around it.
type memory struct{ all []any }

// keep returns list with others around it in the same memory, which m remembers.
func keep[T any](m *memory, list []T, other T) []T {
	around := slices.Concat([]T{other}, list, []T{other, other})
	m.all = append(m.all, around)
	return around[1 : 1+len(list)]
}

// network returns n with others around all of its lists.
func (m *memory) network(n api.Network) api.Network {
	n.Segments = slices.Clone(n.Segments)
	for i := range n.Segments {
		n.Segments[i].Points = keep(m, n.Segments[i].Points, api.Point{At: 77})
	}
	n.Nodes = keep(m, n.Nodes, "around")
	n.Segments = keep(m, n.Segments, api.Segment{Name: "around"})
	n.Ports = keep(m, n.Ports, api.Port{Name: "around"})
	n.Stations = keep(m, n.Stations, api.Station{Name: "around"})
	return n
}

// desk returns d with others around all of its lists.
func (m *memory) desk(d api.Desk) api.Desk {
	return api.Desk{Valves: keep(m, d.Valves, api.Valve{Travel: 77}), Plan: api.Plan{
		Rates: keep(m, d.Plan.Rates, 77), Ports: keep(m, d.Plan.Ports, 77), Pumps: keep(m, d.Plan.Pumps, true),
	}}
}

// steps returns l with others around it, and around the hops of each step.
func (m *memory) steps(l []api.Step) []api.Step {
	l = slices.Clone(l)
	for i := range l {
		l[i].Path.Hops = keep(m, l[i].Path.Hops, api.Hop{Segment: 77})
	}
	return keep(m, l, pass(77))
}

// call is all that the functions of the package get.
type call struct {
	n api.Network
	d api.Desk
	l []api.Step
}

// anyCall is a call with a desk that is valid in most cases, and steps of which some are refused.
func anyCall(r *rand.Rand, t *testing.T) call {
	n := anyNetwork(r)
	d := anyDesk(r, t, n)
	c := call{n: n, d: d}
	for range 8 {
		s := anyStep(r, n, d)
		next, e := Apply(n, d, s)
		if e == api.OK || len(c.l) > 5 {
			c.l = append(c.l, s)
		}
		d = next
	}
	if r.Intn(5) == 0 {
		c.d = spoilt(r, c.d)
	}
	return c
}

// R2: arguments are left as they are, with what lies around them.
func TestArguments(t *testing.T) {
	r := rand.New(rand.NewSource(4))
	for range 600 {
		c := anyCall(r, t)
		var m memory
		n, d, l := m.network(c.n), m.desk(c.d), m.steps(c.l)
		before := text(m.all)
		Check(n, d)
		for _, s := range slices.Concat(l, someSteps()) {
			Apply(n, d, s)
		}
		Run(n, d, l)
		Run(n, d, slices.Repeat(l, 401))
		Ticks(l)
		Idle(n, 9)
		if text(m.all) != before {
			t.Errorf("%.2999s became %.2999s", before, text(m.all))
		}
	}
}

// overwrite changes all of list, and its spare capacity.
func overwrite[T any](list []T, other T) {
	list = list[:cap(list)]
	for i := range list {
		list[i] = other
	}
}

// lists are the functions that overwrite a list of a desk, for each of them.
func lists() []func(d api.Desk) {
	return []func(d api.Desk){
		func(d api.Desk) { overwrite(d.Valves, api.Valve{Travel: 77}) },
		func(d api.Desk) { overwrite(d.Plan.Rates, 77) },
		func(d api.Desk) { overwrite(d.Plan.Ports, 78) },
		func(d api.Desk) {
			pumps := d.Plan.Pumps[:cap(d.Plan.Pumps)]
			for i := range pumps {
				pumps[i] = !pumps[i]
			}
		},
	}
}

// desksOf returns all desks that the functions return for c.
func desksOf(c call) []api.Desk {
	idle, _ := Idle(c.n, 9)
	run, _, _ := Run(c.n, c.d, c.l)
	none, _, _ := Run(c.n, c.d, nil)
	long, _, _ := Run(c.n, c.d, make([]api.Step, 401))
	all := []api.Desk{idle, run, none, long}
	for _, s := range slices.Concat(c.l, someSteps()) {
		d, _ := Apply(c.n, c.d, s)
		all = append(all, d)
	}
	return all
}

// R2: a result keeps nothing of the arguments, nor of another result, whether there is an error or not.
func TestResults(t *testing.T) {
	r := rand.New(rand.NewSource(5))
	for range 300 {
		c := anyCall(r, t)
		first := desksOf(c)
		before := text([]any{c, first})
		for _, d := range desksOf(c) {
			for _, change := range lists() {
				change(d)
			}
		}
		if after := text([]any{c, first}); after != before {
			t.Errorf("with other results, %.2999s became %.2999s", before, after)
		}
		if again := desksOf(c); text(again) != text(first) {
			t.Errorf("%.2999s became %.2999s", text(first), text(again))
		}
	}
}

// R2: no two lists of one result share memory.
func TestApart(t *testing.T) {
	r := rand.New(rand.NewSource(6))
	for range 300 {
		for _, d := range desksOf(anyCall(r, t)) {
			for i, change := range lists() {
				want := cloned(d)
				change(d)
				got := cloned(d)
				for k, other := range []func(){
					func() { got.Valves, want.Valves = nil, nil },
					func() { got.Plan.Rates, want.Plan.Rates = nil, nil },
					func() { got.Plan.Ports, want.Plan.Ports = nil, nil },
					func() { got.Plan.Pumps, want.Plan.Pumps = nil, nil },
				} {
					if k == i {
						other()
					}
				}
				if !same(got, want) {
					t.Errorf("with one of its lists, %.999s became %.999s", text(want), text(got))
				}
			}
		}
	}
}

// R3: the same arguments have the same results, whatever was called in between.
func TestSameResults(t *testing.T) {
	for range 3 {
		TestExample(t)
		TestFlow(t)
		TestFlowFalls(t)
		TestClose(t)
		TestStations(t)
		TestRun(t)
		TestZero(t)
	}
}
