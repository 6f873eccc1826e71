package lineup

import (
	"math"
	"slices"
	"testing"

	"batchline/api"
)

// call is all that the functions of the package get.
type call struct {
	n      api.Network
	l, b   api.Lineup
	p      api.Plan
	valves []api.Valve
}

// good is a call without an error: in a network in which every kind of error of a plan can be made, as its segments 1 and 2 can flow in a circle.
func good() call {
	n := build(3, [][2]int{{0, 1}, {1, 2}, {2, 1}}, 0, 2)
	n.Stations = []api.Station{{Name: "pumps", Node: 0}}
	n.Segments[2].Capacity = 20
	n.Segments[2].Points[1].At = 20
	return call{
		n: n,
		l: open("110", "11"), b: open("011", "01"),
		p:      api.Plan{Rates: []int{5, 5, 0}, Ports: []int{5, -5}, Pumps: []bool{true}},
		valves: slices.Repeat([]api.Valve{{Travel: 4, Open: 4}}, 5),
	}
}

// need checks the error of Need, and that it has no other result.
func (c call) need(t *testing.T, want api.Errno) {
	t.Helper()
	got, e := Need(c.n, c.p)
	if e != want || want != api.OK && !equal(got, api.Lineup{}) {
		t.Errorf("Need of %.1999s = %v, %d, want the error %d", text(c), got, e, want)
	}
}

// of checks the error of Of, and that it has no other result.
func (c call) of(t *testing.T, want api.Errno) {
	t.Helper()
	got, e := Of(c.n, c.valves)
	if e != want || want != api.OK && !equal(got, api.Lineup{}) {
		t.Errorf("Of %.1999s = %v, %d, want the error %d", text(c), got, e, want)
	}
}

// permits checks the error of Permits, and that it has no other result.
func (c call) permits(t *testing.T, want api.Errno) {
	t.Helper()
	got, e := Permits(c.n, c.l, c.p)
	if e != want || got != (want == api.OK) {
		t.Errorf("Permits of %.1999s = %t, %d, want the error %d", text(c), got, e, want)
	}
}

// changes checks the error of Changes, and that it has no other result.
func (c call) changes(t *testing.T, want api.Errno) {
	t.Helper()
	x, y, e := Changes(c.n, c.l, c.b)
	if e != want || (want == api.OK) != (len(x) > 0) || (want == api.OK) != (len(y) > 0) {
		t.Errorf("Changes of %.1999s = %v, %v, %d, want the error %d", text(c), x, y, e, want)
	}
}

// shut checks the error of Shut, and that it has no other result.
func (c call) shut(t *testing.T, want api.Errno) {
	t.Helper()
	got, e := Shut(c.n, c.l)
	if e != want || (want == api.OK) != (len(got) > 0) {
		t.Errorf("Shut of %.1999s = %v, %d, want the error %d", text(c), got, e, want)
	}
}

// spoiler makes an error of something.
type spoiler[T any] struct {
	want  api.Errno
	spoil func(x *T)
}

// networkSpoilers make the errors of a network, in the order of these errors.
var networkSpoilers = []spoiler[api.Network]{
	{api.ErrLimit, func(n *api.Network) { *n = api.Network{} }},
	{api.ErrLimit, func(n *api.Network) { n.Nodes = make([]string, api.MaxNodes+1) }},
	{api.ErrLimit, func(n *api.Network) { n.Segments = slices.Repeat(n.Segments[:1], api.MaxSegments+1) }},
	{api.ErrLimit, func(n *api.Network) { n.Ports = slices.Repeat(n.Ports[:1], api.MaxPorts+1) }},
	{api.ErrLimit, func(n *api.Network) { n.Segments[0].Points = n.Segments[0].Points[:1] }},
	{api.ErrForm, func(n *api.Network) { n.Nodes[2] = "" }},
	{api.ErrForm, func(n *api.Network) { n.Ports[1].Name = "A" }},
	{api.ErrTwice, func(n *api.Network) { n.Segments[1].Name = n.Segments[0].Name }},
	{api.ErrUnknown, func(n *api.Network) { n.Segments[1].From = 3 }},
	{api.ErrUnknown, func(n *api.Network) { n.Segments[1].To = -1 }},
	{api.ErrUnknown, func(n *api.Network) { n.Ports[0].Node = math.MaxInt }},
	{api.ErrInvalid, func(n *api.Network) { n.Segments[1].To = n.Segments[1].From }},
	{api.ErrInvalid, func(n *api.Network) { n.Segments[2].Wave = -1 }},
	{api.ErrInvalid, func(n *api.Network) { n.Settle = api.MaxSettle + 1 }},
}

// lineupSpoilers make lineups that are not valid.
var lineupSpoilers = []spoiler[api.Lineup]{
	{api.ErrInvalid, func(l *api.Lineup) { *l = api.Lineup{} }},
	{api.ErrInvalid, func(l *api.Lineup) { l.Segments = nil }},
	{api.ErrInvalid, func(l *api.Lineup) { l.Segments = l.Segments[:2] }},
	{api.ErrInvalid, func(l *api.Lineup) { l.Segments = append(l.Segments, true) }},
	{api.ErrInvalid, func(l *api.Lineup) { l.Ports = nil }},
	{api.ErrInvalid, func(l *api.Lineup) { l.Ports = l.Ports[:1] }},
	{api.ErrInvalid, func(l *api.Lineup) { l.Ports = append(l.Ports, true) }},
	{api.ErrInvalid, func(l *api.Lineup) { l.Ports = make([]bool, 100000) }},
	{api.ErrInvalid, func(l *api.Lineup) { l.Segments, l.Ports = l.Ports, l.Segments }},
}

// planSpoilers make the errors of a plan, in the order of these errors.
var planSpoilers = []spoiler[api.Plan]{
	{api.ErrInvalid, func(p *api.Plan) { *p = api.Plan{} }},
	{api.ErrInvalid, func(p *api.Plan) { p.Rates = p.Rates[:2] }},
	{api.ErrInvalid, func(p *api.Plan) { p.Rates = append(p.Rates, 0) }},
	{api.ErrInvalid, func(p *api.Plan) { p.Ports = p.Ports[:1] }},
	{api.ErrInvalid, func(p *api.Plan) { p.Ports = append(p.Ports, 0) }},
	{api.ErrInvalid, func(p *api.Plan) { p.Pumps = nil }},
	{api.ErrInvalid, func(p *api.Plan) { p.Pumps = append(p.Pumps, true) }},
	{api.ErrRange, func(p *api.Plan) { p.Rates = []int{5, 26, 21} }},
	{api.ErrRange, func(p *api.Plan) { p.Rates = []int{math.MinInt, 5, 0} }},
	{api.ErrRange, func(p *api.Plan) { p.Ports = []int{1001, -5} }},
	{api.ErrRange, func(p *api.Plan) { p.Ports = []int{5, math.MaxInt} }},
	{api.ErrBalance, func(p *api.Plan) { p.Rates[1] = 4 }},
	{api.ErrBalance, func(p *api.Plan) { p.Ports[0] = 0 }},
	{api.ErrBalance, func(p *api.Plan) { p.Ports[1] = 0 }},
	{api.ErrCycle, func(p *api.Plan) { p.Rates = []int{5, 15, 10} }},
	{api.ErrCycle, func(p *api.Plan) { p.Rates = []int{5, -5, -10} }},
}

// valveSpoilers make lists of valves that are not valid.
var valveSpoilers = []spoiler[[]api.Valve]{
	{api.ErrValve, func(l *[]api.Valve) { *l = nil }},
	{api.ErrValve, func(l *[]api.Valve) { *l = (*l)[:4] }},
	{api.ErrValve, func(l *[]api.Valve) { *l = append(*l, (*l)[0]) }},
	{api.ErrValve, func(l *[]api.Valve) { *l = slices.Repeat(*l, 1000) }},
	{api.ErrValve, func(l *[]api.Valve) { (*l)[0] = api.Valve{} }},
	{api.ErrValve, func(l *[]api.Valve) { (*l)[0].Travel = 61 }},
	{api.ErrValve, func(l *[]api.Valve) { (*l)[1].Open = 5 }},
	{api.ErrValve, func(l *[]api.Valve) { (*l)[2].Open = -1 }},
	{api.ErrValve, func(l *[]api.Valve) { (*l)[3].Travel = 0 }},
	{api.ErrValve, func(l *[]api.Valve) { (*l)[4].Open = math.MaxInt }},
	{api.ErrValve, func(l *[]api.Valve) { (*l)[4].Travel = math.MinInt }},
	{api.ErrValve, func(l *[]api.Valve) { (*l)[2] = api.Valve{Travel: 3, Open: 4, Want: true, Stuck: true} }},
}

// P24.1, P24.2: the errors of a network come first in every function, whatever else is wrong.
func TestNetworkErrors(t *testing.T) {
	for _, x := range networkSpoilers {
		for _, more := range []func(c *call){
			func(c *call) {},
			func(c *call) { c.p.Rates[1] = 4 },
			func(c *call) { c.l, c.b, c.p, c.valves = api.Lineup{}, api.Lineup{}, api.Plan{}, nil },
		} {
			c := good()
			more(&c)
			x.spoil(&c.n)
			c.need(t, x.want)
			c.of(t, x.want)
			c.permits(t, x.want)
			c.changes(t, x.want)
			c.shut(t, x.want)
		}
	}
}

// P24.2: lineups that are not valid, of one and of both.
func TestLineupErrors(t *testing.T) {
	for _, x := range lineupSpoilers {
		c := good()
		x.spoil(&c.b)
		c.changes(t, api.ErrInvalid)
		c.permits(t, api.OK)
		c.shut(t, api.OK)
		x.spoil(&c.l)
		c.changes(t, api.ErrInvalid)
		c.permits(t, api.ErrInvalid)
		c.shut(t, api.ErrInvalid)
		c.b = good().b
		c.changes(t, api.ErrInvalid)
	}
}

// P24.1, P24.2: each error of a plan is that of flow's Check; of Permits, behind that of its lineup.
func TestPlanErrors(t *testing.T) {
	for _, x := range planSpoilers {
		c := good()
		x.spoil(&c.p)
		c.need(t, x.want)
		for _, l := range []api.Lineup{open("110", "11"), open("000", "00"), open("111", "11")} {
			c.l = l
			c.permits(t, x.want)
		}
		for _, y := range lineupSpoilers {
			c := c
			c.l = good().l
			y.spoil(&c.l)
			c.permits(t, api.ErrInvalid)
		}
	}
}

// P24.1: each list of valves that is not valid.
func TestValveErrors(t *testing.T) {
	for _, x := range valveSpoilers {
		c := good()
		x.spoil(&c.valves)
		c.of(t, api.ErrValve)
		for _, y := range valveSpoilers[4:] {
			c := good()
			y.spoil(&c.valves)
			x.spoil(&c.valves)
			c.of(t, api.ErrValve)
		}
	}
}

// P24.1, P24.2: every set of errors at once, of which the first one counts.
func TestFirstError(t *testing.T) {
	none := func(c *call) {}
	plan := []spoiler[call]{
		{api.ErrRange, func(c *call) { c.p.Ports[0] = 1001 }},
		{api.ErrBalance, func(c *call) { c.p.Ports[1] = 0 }},
		{api.ErrCycle, func(c *call) { c.p.Rates[1], c.p.Rates[2] = 15, 10 }},
	}
	for _, x := range []struct {
		first, last spoiler[call]
		plan        []spoiler[call]
		check       func(c call, t *testing.T, want api.Errno)
	}{
		{spoiler[call]{api.ErrInvalid, func(c *call) { c.p.Pumps = nil }}, spoiler[call]{api.OK, none}, plan, call.need},
		{spoiler[call]{api.ErrValve, func(c *call) { c.valves = c.valves[1:] }}, spoiler[call]{api.ErrValve, func(c *call) { c.valves[3].Open = 5 }}, nil, call.of},
		{spoiler[call]{api.ErrInvalid, func(c *call) { c.l.Ports = nil }}, spoiler[call]{api.OK, none}, plan, call.permits},
		{spoiler[call]{api.ErrInvalid, func(c *call) { c.l.Ports = nil }}, spoiler[call]{api.ErrInvalid, func(c *call) { c.b.Segments = nil }}, nil, call.changes},
		{spoiler[call]{api.ErrInvalid, func(c *call) { c.l.Segments = nil }}, spoiler[call]{api.OK, none}, nil, call.shut},
	} {
		spoilers := []spoiler[call]{
			{api.ErrForm, func(c *call) { c.n.Nodes[1] = "B" }},
			{api.ErrTwice, func(c *call) { c.n.Ports[1].Name = c.n.Ports[0].Name }},
			{api.ErrInvalid, func(c *call) { c.n.Vapour = math.MinInt }},
		}
		spoilers = append(append(append(spoilers, x.first), x.plan...), x.last)
		for set := range 1 << len(spoilers) {
			c, first := good(), api.OK
			for i, s := range slices.Backward(spoilers) {
				if set>>i&1 == 1 {
					s.spoil(&c)
					first = s.want
				}
			}
			x.check(c, t, first)
		}
	}
}

// R1: zero values as arguments.
func TestZero(t *testing.T) {
	var c call
	c.need(t, api.ErrLimit)
	c.of(t, api.ErrLimit)
	c.permits(t, api.ErrLimit)
	c.changes(t, api.ErrLimit)
	c.shut(t, api.ErrLimit)
}
