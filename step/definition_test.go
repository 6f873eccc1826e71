package step

import (
	"math/rand"
	"testing"

	"batchline/api"
	"batchline/flow"
	"batchline/paths"
)

// rateOf is the rate of the segment, or port, of the valve with a number.
func rateOf(n api.Network, p api.Plan, number int) int {
	if number < len(n.Segments) {
		return p.Rates[number]
	}
	return p.Ports[number-len(n.Segments)]
}

// leaving is what leaves a node, by the definition.
func leaving(n api.Network, p api.Plan, node int) int {
	sum := 0
	for i, s := range n.Segments {
		if s.From == node {
			sum += max(p.Rates[i], 0)
		}
		if s.To == node {
			sum += max(-p.Rates[i], 0)
		}
	}
	for i, port := range n.Ports {
		if port.Node == node {
			sum += max(-p.Ports[i], 0)
		}
	}
	return sum
}

// runsEmpty reports whether a station runs at whose node nothing leaves, by the definition.
func runsEmpty(n api.Network, p api.Plan) bool {
	for i, s := range n.Stations {
		if p.Pumps[i] && leaving(n, p, s.Node) == 0 {
			return true
		}
	}
	return false
}

// checked is what Check has to return for a valid network.
func checked(n api.Network, d api.Desk) api.Errno {
	if len(d.Valves) != valves(n) {
		return api.ErrValve
	}
	for _, v := range d.Valves {
		if v.Travel < 1 || v.Travel > 60 || v.Open < 0 || v.Open > v.Travel {
			return api.ErrValve
		}
	}
	if e := flow.Check(n, d.Plan); e != api.OK {
		return e
	}
	for number, v := range d.Valves {
		if rateOf(n, d.Plan, number) != 0 && (v.Open < v.Travel || !v.Want) {
			return api.ErrState
		}
	}
	if runsEmpty(n, d.Plan) {
		return api.ErrState
	}
	return api.OK
}

// withFlow is a plan in which a path flows alone, by its ports and hops.
func withFlow(n api.Network, p api.Path, rate int) api.Plan {
	x := api.Plan{Rates: make([]int, len(n.Segments)), Ports: make([]int, len(n.Ports)), Pumps: make([]bool, len(n.Stations))}
	for _, h := range p.Hops {
		x.Rates[h.Segment] = rate
		if h.Back {
			x.Rates[h.Segment] = -rate
		}
	}
	x.Ports[p.In], x.Ports[p.Out] = rate, -rate
	return x
}

// changed is what StepFlow has to do with a valid desk.
func changed(n api.Network, d api.Desk, s api.Step) api.Errno {
	p := s.Path
	p.Rate = abs(s.Value)
	if !paths.Valid(n, p) {
		return api.ErrPath
	}
	one, more := withFlow(n, p, 1), withFlow(n, p, s.Value)
	for number, v := range d.Valves {
		direction := rateOf(n, one, number)
		rate := rateOf(n, d.Plan, number)
		switch {
		case direction == 0: // the path does not pass it
		case v.Open < v.Travel || !v.Want,
			direction > 0 && (rate < 0 || rate < -s.Value),
			direction < 0 && (rate > 0 || rate > s.Value):
			return api.ErrStep
		}
	}
	for i := range d.Plan.Rates {
		d.Plan.Rates[i] += more.Rates[i]
	}
	for i := range d.Plan.Ports {
		d.Plan.Ports[i] += more.Ports[i]
	}
	if e := flow.Check(n, d.Plan); e != api.OK {
		return e
	}
	if runsEmpty(n, d.Plan) {
		return api.ErrStep
	}
	return api.OK
}

// done is what Apply has to do with a desk, which it changes.
func done(n api.Network, d api.Desk, s api.Step) api.Errno {
	if e := checked(n, d); e != api.OK {
		return e
	}
	noPath := s.Path.In == 0 && s.Path.Out == 0 && len(s.Path.Hops) == 0 && s.Path.Rate == 0
	switch s.Kind {
	case api.StepOpen, api.StepClose, api.StepStart, api.StepStop:
		return commanded(n, d, s, s.Value == 0 && noPath)
	case api.StepFlow:
		if s.Index != 0 || s.Path.Rate != 0 {
			return api.ErrStep
		}
		return changed(n, d, s)
	case api.StepWait:
		if s.Index != 0 || !noPath {
			return api.ErrStep
		}
		return waited(d, s.Value)
	}
	return api.ErrStep
}

// commanded is what the commands to valves and stations have to do with a valid desk.
func commanded(n api.Network, d api.Desk, s api.Step, isOnlyIndex bool) api.Errno {
	isValve := s.Kind == api.StepOpen || s.Kind == api.StepClose
	switch {
	case !isOnlyIndex:
		return api.ErrStep
	case s.Index < 0 || isValve && s.Index >= valves(n) || !isValve && s.Index >= len(n.Stations):
		return api.ErrUnknown
	case s.Kind == api.StepClose && rateOf(n, d.Plan, s.Index) != 0:
		return api.ErrStep
	case s.Kind == api.StepStart && leaving(n, d.Plan, n.Stations[s.Index].Node) == 0:
		return api.ErrStep
	case isValve:
		d.Valves[s.Index].Want = s.Kind == api.StepOpen
	default:
		d.Plan.Pumps[s.Index] = s.Kind == api.StepStart
	}
	return api.OK
}

// waited is what StepWait has to do with a valid desk.
func waited(d api.Desk, ticks int) api.Errno {
	if ticks < 1 || ticks > 100 {
		return api.ErrRange
	}
	for i, v := range d.Valves {
		if v.Stuck {
			continue
		}
		if v.Want {
			d.Valves[i].Open = min(v.Open+ticks, v.Travel)
		} else {
			d.Valves[i].Open = max(v.Open-ticks, 0)
		}
	}
	return api.OK
}

// expectDefined checks a step by the definitions, and the desk that it leads to; it returns this, and the error.
func expectDefined(t *testing.T, n api.Network, d api.Desk, s api.Step) (api.Desk, api.Errno) {
	t.Helper()
	want := cloned(d)
	wantError := done(n, want, s)
	if wantError != api.OK {
		want = d
	}
	got, e := Apply(n, d, s)
	if !same(got, want) || e != wantError {
		t.Fatalf("Apply in %.1999s of %.999s, %.999s = %.999s, %d, want %.999s, %d", text(n), text(d), text(s), text(got), e, text(want), wantError)
	}
	if x := Check(n, got); x != checked(n, got) || e == api.OK && x != api.OK {
		t.Fatalf("Check in %.1999s of %.999s = %d", text(n), text(got), x)
	}
	return got, e
}

// anyNetwork is one of a few nodes, with segments and ports between all of them.
func anyNetwork(r *rand.Rand) api.Network {
	nodes := 2 + r.Intn(5)
	segments := make([][2]int, r.Intn(9))
	for i := range segments {
		ends := r.Perm(nodes)
		segments[i] = [2]int{ends[0], ends[1]}
	}
	ports := make([]int, r.Intn(16))
	for i := range ports {
		ports[i] = r.Intn(nodes)
	}
	n := withStations(build(nodes, segments, ports...), r.Perm(nodes)[:r.Intn(nodes)]...)
	for i := range n.Segments {
		if r.Intn(4) == 0 {
			n = withCapacity(n, i, 1+r.Intn(30))
		}
	}
	return n
}

// anyPath is one from a port on, over segments as they come; often it is valid.
func anyPath(r *rand.Rand, n api.Network) api.Path {
	if len(n.Ports) == 0 {
		return api.Path{In: r.Intn(2), Out: r.Intn(2)}
	}
	p := api.Path{In: r.Intn(len(n.Ports)), Out: -1}
	node := n.Ports[p.In].Node
	passed := map[int]bool{node: true}
	for range 20 {
		for _, i := range r.Perm(len(n.Ports)) {
			if n.Ports[i].Node == node && i != p.In && r.Intn(2) == 0 {
				p.Out = i
				return p
			}
		}
		for _, i := range r.Perm(len(n.Segments)) {
			s := n.Segments[i]
			if s.From == node && !passed[s.To] {
				p.Hops, node = append(p.Hops, api.Hop{Segment: i}), s.To
				break
			}
			if s.To == node && !passed[s.From] {
				p.Hops, node = append(p.Hops, api.Hop{Segment: i, Back: true}), s.From
				break
			}
		}
		passed[node] = true
	}
	p.Out = r.Intn(len(n.Ports))
	return p
}

// anyValue is an amount by which flows grow or fall.
func anyValue(r *rand.Rand) int {
	switch r.Intn(12) {
	case 0:
		return []int{0, 1001, -1001, 1000, -1000}[r.Intn(5)]
	case 1:
		return 300 + r.Intn(500)
	case 2, 3, 4, 5:
		return -1 - r.Intn(12)
	}
	return 1 + r.Intn(12)
}

// anyStep is one of any kind, often one that is carried out, sometimes with a field too many.
func anyStep(r *rand.Rand, n api.Network, d api.Desk) api.Step {
	s := api.Step{Kind: []int{1, 2, 3, 4, 5, 5, 5, 5, 5, 6}[r.Intn(10)]}
	switch s.Kind {
	case api.StepOpen, api.StepClose:
		s.Index = r.Intn(valves(n)+2) - 1
	case api.StepStart, api.StepStop:
		s.Index = r.Intn(len(n.Stations)+2) - 1
	case api.StepWait:
		s.Value = []int{1, 1 + r.Intn(9), 100, r.Intn(104) - 2}[r.Intn(4)]
	case api.StepFlow:
		s.Value, s.Path = anyValue(r), anyPath(r, n)
		if divided, e := paths.Divide(n, d.Plan); e == api.OK && len(divided) > 0 && r.Intn(3) == 0 { // a path that flows
			s.Path = divided[r.Intn(len(divided))]
			s.Value = -s.Path.Rate + r.Intn(2)*(r.Intn(3)-1)
			s.Path.Rate = 0
		}
	}
	if r.Intn(20) == 0 {
		field := []*int{&s.Kind, &s.Index, &s.Value, &s.Path.In, &s.Path.Out, &s.Path.Rate}[r.Intn(6)]
		*field += r.Intn(5) - 2
	}
	return s
}

// anyDesk is a valid one: all valves open, some of which stick, then any valves that nothing needs anywhere.
func anyDesk(r *rand.Rand, t *testing.T, n api.Network) api.Desk {
	d := ready(n)
	for range r.Intn(10) {
		if next, e := Apply(n, d, anyStep(r, n, d)); e == api.OK {
			d = next
		}
	}
	for number := range d.Valves {
		travel := 1 + r.Intn(9)
		v := api.Valve{Travel: travel, Open: travel, Want: true, Stuck: r.Intn(9) == 0}
		if rateOf(n, d.Plan, number) == 0 && r.Intn(4) == 0 {
			v.Open, v.Want = r.Intn(travel+1), r.Intn(2) == 0
		}
		d.Valves[number] = v
	}
	if e := Check(n, d); e != api.OK {
		t.Fatalf("Check of %.999s = %d", text(d), e)
	}
	return d
}

// P26.1, P26.2: any steps one behind the other, against the definitions; every desk that is reached is valid.
func TestAny(t *testing.T) {
	r := rand.New(rand.NewSource(1))
	count := map[[2]int]int{}
	for range 3000 {
		n := anyNetwork(r)
		d := anyDesk(r, t, n)
		for range 30 {
			s := anyStep(r, n, d)
			next, e := expectDefined(t, n, d, s)
			count[[2]int{s.Kind, int(e)}]++
			if e == api.OK {
				expectConsequences(t, n, d, s, next)
			}
			d = next
		}
	}
	for _, x := range [][2]int{
		{api.StepOpen, 0}, {api.StepOpen, 8}, {api.StepOpen, 22}, {api.StepClose, 0}, {api.StepClose, 8}, {api.StepClose, 22},
		{api.StepStart, 0}, {api.StepStart, 8}, {api.StepStart, 22}, {api.StepStop, 0}, {api.StepStop, 8}, {api.StepStop, 22},
		{api.StepFlow, 0}, {api.StepFlow, 1}, {api.StepFlow, 13}, {api.StepFlow, 22}, {api.StepFlow, 23}, {api.StepWait, 0}, {api.StepWait, 1}, {api.StepWait, 22},
	} {
		if count[x] < 5 {
			t.Errorf("steps of the kind %d with the error %d: only %d", x[0], x[1], count[x])
		}
	}
}

// expectConsequences checks what follows for a step that was carried out on d, and led to next.
func expectConsequences(t *testing.T, n api.Network, d api.Desk, s api.Step, next api.Desk) {
	t.Helper()
	for number, v := range next.Valves {
		if rateOf(n, next.Plan, number) != 0 && (!v.Want || v.Open != v.Travel) {
			t.Errorf("the valve %d of %.999s closes against a flow", number, text(next))
		}
	}
	if s.Kind == api.StepFlow && s.Value > 0 {
		s.Value = -s.Value
		if back, e := Apply(n, next, s); !same(back, d) || e != api.OK {
			t.Errorf("a flow cannot fall again: Apply of %.999s, %.999s = %.999s, %d", text(next), text(s), text(back), e)
		}
	}
}

// spoilt is d with any change.
func spoilt(r *rand.Rand, d api.Desk) api.Desk {
	d = cloned(d)
	var numbers []*int
	for i := range d.Valves {
		numbers = append(numbers, &d.Valves[i].Open, &d.Valves[i].Travel)
	}
	for _, list := range [][]int{d.Plan.Rates, d.Plan.Ports} {
		for i := range list {
			numbers = append(numbers, &list[i])
		}
	}
	switch r.Intn(6) {
	case 0:
		d.Valves = append(d.Valves, api.Valve{Travel: 1})
	case 1:
		for i := range d.Plan.Pumps {
			d.Plan.Pumps[i] = true
		}
	case 2:
		if len(d.Valves) > 0 {
			d.Valves[r.Intn(len(d.Valves))].Want = false
		}
	default:
		if len(numbers) > 0 {
			*numbers[r.Intn(len(numbers))] += []int{1, -1, 60, -1000}[r.Intn(4)]
		}
	}
	return d
}

// P26.1, P26.2: any desks that are spoilt, and any step on them.
func TestSpoilt(t *testing.T) {
	r := rand.New(rand.NewSource(2))
	count := map[api.Errno]int{}
	for range 10000 {
		n := anyNetwork(r)
		d := spoilt(r, anyDesk(r, t, n))
		count[Check(n, d)]++
		expectDefined(t, n, d, anyStep(r, n, ready(n)))
	}
	for _, e := range []api.Errno{api.OK, api.ErrValve, api.ErrRange, api.ErrBalance, api.ErrState} {
		if count[e] < 50 {
			t.Errorf("desks with the error %d: only %d", e, count[e])
		}
	}
}

// P26.3: any lists of steps, against steps one by one.
func TestRunAny(t *testing.T) {
	r := rand.New(rand.NewSource(3))
	count := map[bool]int{}
	for range 2000 {
		n := anyNetwork(r)
		d := anyDesk(r, t, n)
		at, wantDone, wantError, ticks := cloned(d), 0, api.OK, 0
		var l []api.Step
		for range r.Intn(12) {
			s := anyStep(r, n, at)
			if done(n, cloned(at), s) != api.OK && r.Intn(5) > 0 {
				continue
			}
			l = append(l, s)
			if s.Kind == api.StepWait && s.Value >= 1 && s.Value <= 100 {
				ticks += s.Value
			}
			if wantError != api.OK {
				continue
			}
			next := cloned(at)
			if wantError = done(n, next, s); wantError == api.OK {
				at, wantDone = next, wantDone+1
			}
		}
		got, steps, e := Run(n, d, l)
		if !same(got, at) || steps != wantDone || e != wantError {
			t.Errorf("Run in %.1999s of %.999s, %.999s = %.999s, %d, %d, want %.999s, %d, %d", text(n), text(d), text(l), text(got), steps, e, text(at), wantDone, wantError)
		}
		if got := Ticks(l); got != ticks {
			t.Errorf("Ticks of %.999s = %d, want %d", text(l), got, ticks)
		}
		// Two parts, one behind the other, lead to the same desk.
		half, _, _ := Run(n, d, l[:wantDone/2])
		if whole, _, e := Run(n, half, l[wantDone/2:wantDone]); !same(whole, at) || e != api.OK {
			t.Errorf("in two parts, Run of %.999s leads to %.999s, %d, want %.999s", text(l), text(whole), e, text(at))
		}
		count[e == api.OK && len(l) > 3]++
	}
	if count[true] < 50 {
		t.Errorf("only %d lists have no error", count[true])
	}
}

// P26.1, P26.2: every plan of small rates on every small desk of a row, and every small step on it.
func TestEvery(t *testing.T) {
	n := withStations(build(2, [][2]int{{0, 1}}, 0, 1, 1), 1)
	all := []api.Valve{{Travel: 1}, {Travel: 1, Want: true}, {Travel: 1, Open: 1}, {Travel: 1, Open: 1, Want: true}}
	var steps []api.Step
	for value := -3; value <= 3; value++ {
		steps = append(steps, grow(value, 0, 1, 0), grow(value, 0, 2, 0), grow(value, 1, 0, -1), grow(value, 2, 1), grow(value, 1, 2), grow(value, 1, 2, 0))
	}
	for number := range 4 {
		steps = append(steps, open(number), shut(number))
	}
	steps = append(steps, start(0), stop(0), pass(1))
	valid := 0
	for set := range 256 {
		d := ready(n)
		for i := range d.Valves {
			d.Valves[i] = all[set>>(2*i)&3]
		}
		for first := -2; first <= 2; first++ {
			for second := -2; second <= 2; second++ {
				for _, runs := range []bool{false, true} {
					d.Plan = api.Plan{Rates: []int{first}, Ports: []int{first, second, -first - second}, Pumps: []bool{runs}}
					if Check(n, d) != api.OK {
						expectDefined(t, n, d, steps[0])
						continue
					}
					valid++
					for _, s := range steps {
						expectDefined(t, n, d, s)
					}
				}
			}
		}
	}
	if valid < 300 {
		t.Errorf("only %d desks are valid", valid)
	}
}
