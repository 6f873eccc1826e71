package paths

import (
	"math"
	"slices"
	"testing"

	"batchline/api"
)

// call is all that the functions of the package with errors get.
type call struct {
	n       api.Network
	p       api.Plan
	l       []api.Path
	pumps   []bool
	segment int
}

// good is a call without an error: in a network in which every kind of error of a plan can be made, as its segments 1 and 2 can flow in a circle.
func good() call {
	n := build(3, [][2]int{{0, 1}, {1, 2}, {2, 1}}, 0, 2, 1)
	n.Stations = []api.Station{{Name: "pumps", Node: 0}}
	n.Segments[2].Capacity = 20
	n.Segments[2].Points[1].At = 20
	return call{
		n: n, p: api.Plan{Rates: []int{5, 5, 0}, Ports: []int{5, -5, 0}, Pumps: []bool{true}},
		l: []api.Path{path(0, 1, 3, 0, 1), path(0, 2, 2, 0)}, pumps: []bool{true}, segment: 1,
	}
}

// divide checks the error of Divide, and that it has no other result.
func (c call) divide(t *testing.T, want api.Errno) {
	t.Helper()
	got, e := Divide(c.n, c.p)
	if e != want || (want == api.OK) != (len(got) > 0) {
		t.Errorf("Divide of %.1999s = %.999s, %d, want the error %d", text(c), text(got), e, want)
	}
}

// sum checks the error of Sum, and that it has no other result.
func (c call) sum(t *testing.T, want api.Errno) {
	t.Helper()
	got, e := Sum(c.n, c.l, c.pumps)
	if e != want || (want == api.OK) == samePlan(got, api.Plan{}) {
		t.Errorf("Sum of %.1999s = %v, %d, want the error %d", text(c), got, e, want)
	}
}

// through checks the error of Through, and that it has no other result.
func (c call) through(t *testing.T, want api.Errno) {
	t.Helper()
	got, e := Through(c.n, c.l, c.segment)
	if e != want || (want == api.OK) != (len(got) > 0) {
		t.Errorf("Through of %.1999s = %.999s, %d, want the error %d", text(c), text(got), e, want)
	}
}

// spoiler makes an error of something.
type spoiler[T any] struct {
	want  api.Errno
	spoil func(x *T)
}

// networkSpoilers make the errors of a network, in the order of these errors.
var networkSpoilers = []spoiler[api.Network]{
	{api.ErrLimit, func(n *api.Network) { *n = api.Network{} }},
	{api.ErrLimit, func(n *api.Network) { n.Nodes = make([]string, api.MaxNodes+1) }},
	{api.ErrLimit, func(n *api.Network) { n.Segments = slices.Repeat(n.Segments[:1], api.MaxSegments+1) }},
	{api.ErrLimit, func(n *api.Network) { n.Ports = slices.Repeat(n.Ports[:1], api.MaxPorts+1) }},
	{api.ErrLimit, func(n *api.Network) { n.Segments[0].Points = n.Segments[0].Points[:1] }},
	{api.ErrForm, func(n *api.Network) { n.Nodes[2] = "" }},
	{api.ErrForm, func(n *api.Network) { n.Ports[1].Name = "A" }},
	{api.ErrTwice, func(n *api.Network) { n.Segments[1].Name = n.Segments[0].Name }},
	{api.ErrUnknown, func(n *api.Network) { n.Segments[1].From = 3 }},
	{api.ErrUnknown, func(n *api.Network) { n.Segments[1].To = -1 }},
	{api.ErrUnknown, func(n *api.Network) { n.Ports[0].Node = math.MaxInt }},
	{api.ErrInvalid, func(n *api.Network) { n.Segments[1].To = n.Segments[1].From }},
	{api.ErrInvalid, func(n *api.Network) { n.Segments[2].Wave = -1 }},
	{api.ErrInvalid, func(n *api.Network) { n.Settle = api.MaxSettle + 1 }},
}

// planSpoilers make the errors of a plan, in the order of these errors.
var planSpoilers = []spoiler[api.Plan]{
	{api.ErrInvalid, func(p *api.Plan) { *p = api.Plan{} }},
	{api.ErrInvalid, func(p *api.Plan) { p.Rates = p.Rates[:2] }},
	{api.ErrInvalid, func(p *api.Plan) { p.Rates = append(p.Rates, 0) }},
	{api.ErrInvalid, func(p *api.Plan) { p.Ports = p.Ports[:2] }},
	{api.ErrInvalid, func(p *api.Plan) { p.Ports = append(p.Ports, 0) }},
	{api.ErrInvalid, func(p *api.Plan) { p.Pumps = nil }},
	{api.ErrInvalid, func(p *api.Plan) { p.Pumps = append(p.Pumps, true) }},
	{api.ErrRange, func(p *api.Plan) { p.Rates = []int{5, 26, 21} }},
	{api.ErrRange, func(p *api.Plan) { p.Rates = []int{math.MinInt, 5, 0} }},
	{api.ErrRange, func(p *api.Plan) { p.Ports = []int{1001, -5, 0} }},
	{api.ErrRange, func(p *api.Plan) { p.Ports = []int{5, math.MaxInt, 0} }},
	{api.ErrBalance, func(p *api.Plan) { p.Rates[1] = 4 }},
	{api.ErrBalance, func(p *api.Plan) { p.Ports[0] = 0 }},
	{api.ErrBalance, func(p *api.Plan) { p.Ports[1] = 0 }},
	{api.ErrBalance, func(p *api.Plan) { p.Ports = []int{0, 0, 0} }},
	{api.ErrCycle, func(p *api.Plan) { p.Rates = []int{5, 15, 10} }},
	{api.ErrCycle, func(p *api.Plan) { p.Rates = []int{5, -5, -10} }},
	{api.ErrCycle, func(p *api.Plan) { p.Rates, p.Ports = []int{0, 20, 20}, []int{0, 0, 0} }},
}

// pathSpoilers make lists of paths that have no sum.
var pathSpoilers = []spoiler[[]api.Path]{
	{api.ErrPath, func(l *[]api.Path) { (*l)[0].In = -1 }},
	{api.ErrPath, func(l *[]api.Path) { (*l)[0].In = 3 }},
	{api.ErrPath, func(l *[]api.Path) { (*l)[1].Out = math.MinInt }},
	{api.ErrPath, func(l *[]api.Path) { (*l)[1].Out = math.MaxInt }},
	{api.ErrPath, func(l *[]api.Path) { (*l)[0].In = 1 }},
	{api.ErrPath, func(l *[]api.Path) { (*l)[0].Rate = 0 }},
	{api.ErrPath, func(l *[]api.Path) { (*l)[1].Rate = -1 }},
	{api.ErrPath, func(l *[]api.Path) { (*l)[1].Rate = 1001 }},
	{api.ErrPath, func(l *[]api.Path) { (*l)[1].Rate = math.MinInt }},
	{api.ErrPath, func(l *[]api.Path) { (*l)[0].Hops = nil }},
	{api.ErrPath, func(l *[]api.Path) { (*l)[0].Hops = hops(0) }},
	{api.ErrPath, func(l *[]api.Path) { (*l)[0].Hops = hops(0, 1, 2) }},
	{api.ErrPath, func(l *[]api.Path) { (*l)[0].Hops = hops(0, 1, 2, 1) }},
	{api.ErrPath, func(l *[]api.Path) { (*l)[0].Hops = hops(0, 3) }},
	{api.ErrPath, func(l *[]api.Path) { (*l)[1].Hops = hops(-1) }},
	{api.ErrPath, func(l *[]api.Path) { *l = append(*l, api.Path{}) }},
	{api.ErrPath, func(l *[]api.Path) { *l = append(*l, path(2, 1, 1, 0)) }},
	{api.ErrPath, func(l *[]api.Path) { *l = slices.Repeat(*l, 33) }},
	{api.ErrPath, func(l *[]api.Path) { *l = slices.Repeat(*l, 10000) }},
	{api.ErrPath, func(l *[]api.Path) { *l = append(*l, path(2, 0, 1, -1)) }},
	{api.ErrPath, func(l *[]api.Path) { *l = append([]api.Path{path(1, 2, 3, -2)}, *l...) }},
}

// sumSpoilers make lists of paths whose sum is no valid plan, in the order of these errors.
var sumSpoilers = []spoiler[[]api.Path]{
	{api.ErrRange, func(l *[]api.Path) { (*l)[0].Rate = 999 }},
	{api.ErrRange, func(l *[]api.Path) { *l = append(*l, path(1, 2, 21, 2)) }},
	{api.ErrRange, func(l *[]api.Path) { *l = append(*l, path(2, 1, 21, -3)) }},
	{api.ErrRange, func(l *[]api.Path) { *l = append(*l, path(0, 2, 1000, 0)) }},
	{api.ErrRange, func(l *[]api.Path) { *l = append(*l, path(2, 1, 998, 1)) }},
	{api.ErrCycle, func(l *[]api.Path) { *l = append(*l, path(1, 2, 1, 2)) }},
	{api.ErrCycle, func(l *[]api.Path) { *l = append(*l, path(1, 2, 20, 2)) }},
}

// P25.1 to P25.3: the errors of a network come first in every function, whatever else is wrong, and no path is valid in it.
func TestNetworkErrors(t *testing.T) {
	for _, x := range networkSpoilers {
		for _, more := range []func(c *call){
			func(c *call) {},
			func(c *call) { c.p.Rates[1], c.l[0].Rate, c.segment = 4, 0, 3 },
			func(c *call) { c.p, c.l, c.pumps, c.segment = api.Plan{}, nil, nil, -1 },
		} {
			c := good()
			more(&c)
			x.spoil(&c.n)
			c.divide(t, x.want)
			c.sum(t, x.want)
			c.through(t, x.want)
			for _, p := range []api.Path{path(0, 2, 2, 0), path(1, 2, 2, 2), path(2, 0, 2, -1), path(0, 1, 1), {}} {
				expectValid(t, c.n, p, false)
			}
		}
	}
}

// P25.1: each error of a plan is that of flow's Check.
func TestPlanErrors(t *testing.T) {
	good().divide(t, api.OK)
	for _, x := range planSpoilers {
		c := good()
		x.spoil(&c.p)
		c.divide(t, x.want)
		c.sum(t, api.OK)
		c.through(t, api.OK)
	}
}

// P25.2: each list of paths that has no sum, or one that is no valid plan; also behind wrong pumps.
func TestPathErrors(t *testing.T) {
	good().sum(t, api.OK)
	for _, x := range pathSpoilers {
		for _, pumps := range [][]bool{{true}, {}, {true, false}} {
			c := good()
			c.pumps = pumps
			x.spoil(&c.l)
			c.sum(t, api.ErrPath)
		}
	}
	for _, x := range sumSpoilers {
		c := good()
		x.spoil(&c.l)
		c.sum(t, x.want)
		for _, y := range pathSpoilers {
			c := good()
			x.spoil(&c.l)
			y.spoil(&c.l)
			c.sum(t, api.ErrPath)
		}
	}
}

// P25.2: there are as many pumps as stations.
func TestPumpErrors(t *testing.T) {
	for count := range 5 {
		for _, l := range [][]api.Path{nil, good().l, append(good().l, path(1, 2, 20, 2)), {path(2, 1, 21, -3)}} {
			c := good()
			c.l, c.pumps = l, make([]bool, count)
			if count != 1 {
				c.sum(t, api.ErrInvalid)
			}
			c.n.Stations = nil
			if count > 0 {
				c.sum(t, api.ErrInvalid)
			}
		}
	}
}

// P25.3: there is no such segment.
func TestSegmentErrors(t *testing.T) {
	for _, segment := range []int{-1, 3, 4, 31, 32, math.MinInt, math.MaxInt} {
		c := good()
		c.segment = segment
		c.through(t, api.ErrUnknown)
		c.l = nil
		c.through(t, api.ErrUnknown)
		c.l = []api.Path{{Out: 1, Rate: 1, Hops: []api.Hop{{Segment: segment}}}}
		c.through(t, api.ErrUnknown)
	}
	expectThrough(t, good().n, good().l, 0, good().l...)
	expectThrough(t, good().n, good().l, 2)
}

// P25.1 to P25.3: every set of errors at once, of which the first one counts.
func TestFirstError(t *testing.T) {
	network := []spoiler[call]{
		{api.ErrForm, func(c *call) { c.n.Nodes[1] = "B" }},
		{api.ErrTwice, func(c *call) { c.n.Ports[1].Name = c.n.Ports[0].Name }},
		{api.ErrInvalid, func(c *call) { c.n.Vapour = math.MinInt }},
	}
	for _, x := range []struct {
		own   []spoiler[call]
		check func(c call, t *testing.T, want api.Errno)
	}{
		{[]spoiler[call]{
			{api.ErrInvalid, func(c *call) { c.p.Pumps = nil }},
			{api.ErrRange, func(c *call) { c.p.Ports[0] = 1001 }},
			{api.ErrBalance, func(c *call) { c.p.Ports[1] = 0 }},
			{api.ErrCycle, func(c *call) { c.p.Rates[1], c.p.Rates[2] = 15, 10 }},
		}, call.divide},
		{[]spoiler[call]{
			{api.ErrPath, func(c *call) { c.l = slices.Repeat(c.l, 33) }},
			{api.ErrPath, func(c *call) { c.l[1].Rate = 0 }},
			{api.ErrPath, func(c *call) { c.l = append(c.l, path(1, 2, 1, -2)) }},
			{api.ErrInvalid, func(c *call) { c.pumps = nil }},
			{api.ErrRange, func(c *call) { c.l[0].Rate = 999 }},
			{api.ErrCycle, func(c *call) { c.l = append(c.l, path(1, 2, 1, 2)) }},
		}, call.sum},
		{[]spoiler[call]{{api.ErrUnknown, func(c *call) { c.segment = 3 }}}, call.through},
	} {
		spoilers := slices.Concat(network, x.own)
		for set := range 1 << len(spoilers) {
			c, first := good(), api.OK
			for i, s := range slices.Backward(spoilers) {
				if set>>i&1 == 1 {
					s.spoil(&c)
					first = s.want
				}
			}
			x.check(c, t, first)
		}
	}
}

// R1: zero values as arguments.
func TestZero(t *testing.T) {
	var c call
	c.divide(t, api.ErrLimit)
	c.sum(t, api.ErrLimit)
	c.through(t, api.ErrLimit)
	expectValid(t, c.n, api.Path{}, false)
	expectCommon(t, nil, []api.Path{})
	expectLess(t, []api.Path{}, nil)
}
