package step

import (
	"math"
	"slices"
	"testing"

	"batchline/api"
)

// spoiler makes an error of something.
type spoiler[T any] struct {
	want  api.Errno
	spoil func(x *T)
}

// networkSpoilers make the errors of a network, in the order of these errors.
var networkSpoilers = []spoiler[api.Network]{
	{api.ErrLimit, func(n *api.Network) { *n = api.Network{} }},
	{api.ErrLimit, func(n *api.Network) { n.Nodes = make([]string, api.MaxNodes+1) }},
	{api.ErrLimit, func(n *api.Network) { n.Segments = slices.Repeat(n.Segments[:1], api.MaxSegments+1) }},
	{api.ErrLimit, func(n *api.Network) { n.Ports = slices.Repeat(n.Ports[:1], api.MaxPorts+1) }},
	{api.ErrLimit, func(n *api.Network) { n.Stations = slices.Repeat(n.Stations[:1], api.MaxStations+1) }},
	{api.ErrLimit, func(n *api.Network) { n.Segments[0].Points = n.Segments[0].Points[:1] }},
	{api.ErrForm, func(n *api.Network) { n.Nodes[2] = "" }},
	{api.ErrForm, func(n *api.Network) { n.Ports[1].Name = "A" }},
	{api.ErrTwice, func(n *api.Network) { n.Segments[1].Name = n.Segments[0].Name }},
	{api.ErrTwice, func(n *api.Network) { n.Stations[1].Node = n.Stations[0].Node }},
	{api.ErrUnknown, func(n *api.Network) { n.Segments[1].From = 4 }},
	{api.ErrUnknown, func(n *api.Network) { n.Stations[0].Node = -1 }},
	{api.ErrUnknown, func(n *api.Network) { n.Ports[0].Node = math.MaxInt }},
	{api.ErrInvalid, func(n *api.Network) { n.Segments[1].To = n.Segments[1].From }},
	{api.ErrInvalid, func(n *api.Network) { n.Segments[2].Wave = -1 }},
	{api.ErrInvalid, func(n *api.Network) { n.Settle = api.MaxSettle + 1 }},
}

// valveSpoilers make valves that are not valid, or not as many as there are numbers.
var valveSpoilers = []spoiler[api.Desk]{
	{api.ErrValve, func(d *api.Desk) { d.Valves = nil }},
	{api.ErrValve, func(d *api.Desk) { d.Valves = d.Valves[:11] }},
	{api.ErrValve, func(d *api.Desk) { d.Valves = d.Valves[:5] }},
	{api.ErrValve, func(d *api.Desk) { d.Valves = append(d.Valves, d.Valves[0]) }},
	{api.ErrValve, func(d *api.Desk) { d.Valves = slices.Repeat(d.Valves, 1000) }},
	{api.ErrValve, func(d *api.Desk) { d.Valves[0] = api.Valve{} }},
	{api.ErrValve, func(d *api.Desk) { d.Valves[1].Travel, d.Valves[1].Open = 61, 61 }},
	{api.ErrValve, func(d *api.Desk) { d.Valves[4].Travel = 3 }},
	{api.ErrValve, func(d *api.Desk) { d.Valves[4].Travel = math.MinInt }},
	{api.ErrValve, func(d *api.Desk) { d.Valves[5].Open = 5 }},
	{api.ErrValve, func(d *api.Desk) { d.Valves[9].Open = -1 }},
	{api.ErrValve, func(d *api.Desk) { d.Valves[11].Open = math.MaxInt }},
}

// planSpoilers make the errors of a plan, in the order of these errors.
var planSpoilers = []spoiler[api.Desk]{
	{api.ErrInvalid, func(d *api.Desk) { d.Plan = api.Plan{} }},
	{api.ErrInvalid, func(d *api.Desk) { d.Plan.Rates = d.Plan.Rates[:4] }},
	{api.ErrInvalid, func(d *api.Desk) { d.Plan.Rates = append(d.Plan.Rates, 0) }},
	{api.ErrInvalid, func(d *api.Desk) { d.Plan.Ports = d.Plan.Ports[:6] }},
	{api.ErrInvalid, func(d *api.Desk) { d.Plan.Ports = append(d.Plan.Ports, 0) }},
	{api.ErrInvalid, func(d *api.Desk) { d.Plan.Pumps = nil }},
	{api.ErrInvalid, func(d *api.Desk) { d.Plan.Pumps = append(d.Plan.Pumps, false) }},
	{api.ErrRange, func(d *api.Desk) { d.Plan.Rates[0] = 1001 }},
	{api.ErrRange, func(d *api.Desk) { d.Plan.Rates[4] = -21 }},
	{api.ErrRange, func(d *api.Desk) { d.Plan.Rates[1] = math.MinInt }},
	{api.ErrRange, func(d *api.Desk) { d.Plan.Ports[6] = math.MaxInt }},
	{api.ErrBalance, func(d *api.Desk) { d.Plan.Rates[0]++ }},
	{api.ErrBalance, func(d *api.Desk) { d.Plan.Ports[1]-- }},
	{api.ErrCycle, func(d *api.Desk) { d.Plan.Rates[1] += 5; d.Plan.Rates[4] += 5 }},
}

// stateSpoilers make the other reasons for which a desk is not valid.
var stateSpoilers = []spoiler[api.Desk]{
	{api.ErrState, func(d *api.Desk) { d.Valves[0].Open = 3 }},
	{api.ErrState, func(d *api.Desk) { d.Valves[3].Want = false }},
	{api.ErrState, func(d *api.Desk) { d.Valves[8] = api.Valve{Travel: 60, Stuck: true} }},
	{api.ErrState, func(d *api.Desk) {
		d.Plan.Pumps[1], d.Plan.Rates, d.Plan.Ports = true, []int{30, 30, 0, 0, 0}, []int{20, 10, -30, 0, 0, 0, 0}
	}},
}

// expectRunError checks that the first step already has an error.
func expectRunError(t *testing.T, n api.Network, d api.Desk, l []api.Step, want api.Errno) {
	t.Helper()
	if got, done, e := Run(n, d, l); !same(got, d) || done != 0 || e != want {
		t.Errorf("Run of %.999s, %.999s = %.999s, %d, %d, want the error %d", text(d), text(l), text(got), done, e, want)
	}
}

// someSteps are steps of which some would be refused on a valid desk, for each kind and for none.
func someSteps() []api.Step {
	return []api.Step{
		{}, {Kind: 7}, {Kind: math.MinInt}, open(0), open(99), open(-1), shut(0), shut(4), shut(99), start(0), start(1), start(99), stop(0), stop(99),
		pass(1), pass(0), pass(101), grow(1, 0, 2, 0, 1), grow(0, 0, 2, 0, 1), grow(1, 0, 2), grow(21, 4, 5, 4), grow(-1000, 0, 2, 0, 1),
		{Kind: api.StepWait, Value: 1, Index: 1},
	}
}

// expectErrorOfDesk checks the error of a desk, in Check and ahead of all errors of steps.
func expectErrorOfDesk(t *testing.T, n api.Network, d api.Desk, want api.Errno) {
	t.Helper()
	expectCheck(t, n, d, want)
	for _, s := range someSteps() {
		expectRefused(t, n, d, s, want)
		expectRunError(t, n, d, []api.Step{s, open(0)}, want)
	}
}

// P26.1, P26.2: each error of a network, of valves, of a plan, and of a state, alone.
func TestErrors(t *testing.T) {
	expectCheck(t, fork(), flowing(), api.OK)
	for _, x := range networkSpoilers {
		n := fork()
		x.spoil(&n)
		expectErrorOfDesk(t, n, flowing(), x.want)
		expectErrorOfDesk(t, n, api.Desk{}, x.want)
	}
	for _, x := range slices.Concat(valveSpoilers, planSpoilers, stateSpoilers) {
		d := flowing()
		x.spoil(&d)
		expectErrorOfDesk(t, fork(), d, x.want)
	}
}

// P26.1: the errors of a desk ahead of each other.
func TestErrorsOrder(t *testing.T) {
	spoilt := func(l ...spoiler[api.Desk]) api.Desk {
		d := flowing()
		for i := range l { // the last ones first, as the first ones may leave no list to spoil
			l[len(l)-1-i].spoil(&d)
		}
		return d
	}
	for _, v := range valveSpoilers {
		for _, p := range planSpoilers {
			for _, s := range stateSpoilers {
				expectCheck(t, fork(), spoilt(v, p), api.ErrValve)
				expectCheck(t, fork(), spoilt(v, s), api.ErrValve)
				expectCheck(t, fork(), spoilt(v, p, s), api.ErrValve)
				expectCheck(t, fork(), spoilt(p, s), p.want)
				for _, x := range networkSpoilers {
					n := fork()
					x.spoil(&n)
					expectCheck(t, n, spoilt(v, p, s), x.want)
				}
			}
		}
	}
	expectRefused(t, fork(), spoilt(valveSpoilers[3], planSpoilers[1]), open(0), api.ErrValve)
	expectRefused(t, fork(), spoilt(planSpoilers[1], stateSpoilers[0]), open(0), api.ErrInvalid)
}

// P26.1: every two errors of a plan, in order.
func TestPlanErrorsOrder(t *testing.T) {
	for i, first := range planSpoilers {
		for _, second := range planSpoilers[i:] {
			if first.want == second.want {
				continue
			}
			d := flowing()
			second.spoil(&d)
			first.spoil(&d)
			expectCheck(t, fork(), d, first.want)
		}
	}
}

// P26.3: steps are carried out up to the first error, and the desk is the one before that.
func TestRun(t *testing.T) {
	n := fork()
	idle, _ := Idle(n, 4)
	l := []api.Step{open(0), open(1), open(5), open(7), pass(4), grow(10, 0, 2, 0, 1), start(0), grow(5, 0, 2, 0, 1)}
	desks := []api.Desk{idle}
	for _, s := range l {
		desks = append(desks, applied(t, n, desks[len(desks)-1], s))
	}
	last := desks[len(desks)-1]
	if !slices.Equal(last.Plan.Rates, []int{15, 15, 0, 0, 0}) || !slices.Equal(last.Plan.Pumps, []bool{true, false, false}) {
		t.Errorf("the last desk is %+v", last)
	}
	for count := range len(l) + 1 {
		for _, x := range []struct {
			s    []api.Step
			want api.Errno
		}{
			{nil, api.OK}, {[]api.Step{shut(99)}, api.ErrUnknown}, {[]api.Step{{}}, api.ErrStep}, {[]api.Step{pass(101), {}}, api.ErrRange},
			{[]api.Step{grow(1, 0, 0), open(0), pass(101)}, api.ErrPath}, {[]api.Step{start(1), shut(99), open(4)}, api.ErrStep},
		} {
			got, done, e := Run(n, idle, slices.Concat(l[:count], x.s))
			if !same(got, desks[count]) || done != count || e != x.want {
				t.Errorf("Run of %d steps and %.999s = %.999s, %d, %d, want %.999s, %d", count, text(x.s), text(got), done, e, text(desks[count]), x.want)
			}
		}
	}
}

// P26.3: as many steps as there may be, and more; the limit comes ahead of all else, and nothing is carried out.
func TestRunLimit(t *testing.T) {
	n := fork()
	idle, _ := Idle(n, 60)
	for _, count := range []int{0, 1, 399, 400, 401, 402, 100000} {
		l := slices.Repeat([]api.Step{open(3)}, count)
		want, wantDone, wantError := cloned(idle), count, api.OK
		want.Valves[3].Want = count > 0
		if count > 400 {
			want, wantDone, wantError = idle, 0, api.ErrLimit
		}
		if got, done, e := Run(n, idle, l); !same(got, want) || done != wantDone || e != wantError {
			t.Errorf("Run of %d steps = %.999s, %d, %d", count, text(got), done, e)
		}
		if count > 400 {
			l[0] = api.Step{}
			expectRunError(t, n, idle, l, api.ErrLimit)
			expectRunError(t, n, api.Desk{}, l, api.ErrLimit)
			expectRunError(t, api.Network{}, idle, l, api.ErrLimit)
		} else if count > 0 {
			l[count-1] = shut(99)
			if _, done, e := Run(n, idle, l); done != count-1 || e != api.ErrUnknown {
				t.Errorf("Run of %d steps, the last one unknown, = %d, %d", count, done, e)
			}
		}
	}
	bad := idle
	bad.Valves = nil
	expectRunError(t, n, bad, slices.Repeat([]api.Step{open(3)}, 400), api.ErrValve)
	expectRunError(t, n, bad, slices.Repeat([]api.Step{open(3)}, 401), api.ErrLimit)
}

// P26.3: without steps there is no error, whatever the desk is.
func TestRunNothing(t *testing.T) {
	bad := flowing()
	bad.Plan.Rates[0]++
	for _, d := range []api.Desk{{}, ready(fork()), flowing(), bad} {
		for _, n := range []api.Network{fork(), {}} {
			expectRunError(t, n, d, nil, api.OK)
			expectRunError(t, n, d, []api.Step{}, api.OK)
		}
	}
}

// R1, R4: zero values everywhere.
func TestZero(t *testing.T) {
	expectCheck(t, api.Network{}, api.Desk{}, api.ErrLimit)
	expectRefused(t, api.Network{}, api.Desk{}, api.Step{}, api.ErrLimit)
	expectRunError(t, api.Network{}, api.Desk{}, []api.Step{{}}, api.ErrLimit)
	if d, e := Idle(api.Network{}, 0); !same(d, api.Desk{}) || e != api.ErrLimit {
		t.Errorf("Idle of nothing = %v, %d", d, e)
	}
	one := build(1, nil)
	expectCheck(t, one, api.Desk{}, api.OK)
	expectRefused(t, one, api.Desk{}, api.Step{}, api.ErrStep)
	expectApply(t, one, api.Desk{}, pass(1), api.Desk{})
	expectRefused(t, one, api.Desk{}, start(0), api.ErrUnknown)
}
