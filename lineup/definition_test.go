package lineup

import (
	"math/rand"
	"slices"
	"testing"

	"batchline/api"
	"batchline/flow"
	"batchline/valve"
)

// isOpen reports whether the valve with a number is open in a lineup for n, by the definition of the numbers.
func isOpen(n api.Network, l api.Lineup, number int) bool {
	if number < len(n.Segments) {
		return l.Segments[number]
	}
	return l.Ports[number-len(n.Segments)]
}

// rateOf is the rate of the segment, or port, of the valve with a number.
func rateOf(n api.Network, p api.Plan, number int) int {
	if number < len(n.Segments) {
		return p.Rates[number]
	}
	return p.Ports[number-len(n.Segments)]
}

// valves is how many valves n has.
func valves(n api.Network) int { return len(n.Segments) + len(n.Ports) }

// expectPlan checks what p, which is valid, needs, and whether l permits it, by the definitions.
func expectPlan(t *testing.T, n api.Network, l api.Lineup, p api.Plan) bool {
	t.Helper()
	need, e := Need(n, p)
	if !Valid(n, need) || e != api.OK {
		t.Fatalf("Need of %.999s, %.999s = %v, %d", text(n), text(p), need, e)
	}
	permitted := true
	for number := range valves(n) {
		if isOpen(n, need, number) != (rateOf(n, p, number) != 0) {
			t.Errorf("Need of %.999s, %.999s = %v", text(n), text(p), need)
		}
		if isOpen(n, need, number) && !isOpen(n, l, number) {
			permitted = false
		}
	}
	expectPermits(t, n, l, p, permitted)
	// The consequence: a plan is permitted by what it needs.
	expectPermits(t, n, need, p, true)
	return permitted
}

// expectTwo checks the changes from a to b, and what a shuts, by the definitions.
func expectTwo(t *testing.T, n api.Network, a, b api.Lineup) {
	t.Helper()
	var opens, closes []int
	for number := range valves(n) {
		switch was, then := isOpen(n, a, number), isOpen(n, b, number); {
		case !was && then:
			opens = append(opens, number)
		case was && !then:
			closes = append(closes, number)
		}
	}
	expectChanges(t, n, a, b, opens, closes)
	shut, e := Shut(n, a)
	if len(shut) != len(n.Segments) || e != api.OK {
		t.Fatalf("Shut of %.999s, %v = %v, %d", text(n), a, shut, e)
	}
	for i, is := range shut {
		if is == a.Segments[i] {
			t.Errorf("Shut of %.999s, %v = %v", text(n), a, shut)
		}
	}
	// The consequence: the changes, carried out on a, give b.
	if got := carriedOut(t, n, a, b); !equal(got, b) {
		t.Errorf("the changes from %v to %v give %v", a, b, got)
	}
}

// carriedOut is a with the changes from a to b.
func carriedOut(t *testing.T, n api.Network, a, b api.Lineup) api.Lineup {
	t.Helper()
	opens, closes, e := Changes(n, a, b)
	if e != api.OK {
		t.Errorf("Changes of %.999s, %v, %v have the error %d", text(n), a, b, e)
	}
	all := slices.Concat(a.Segments, a.Ports)
	for _, number := range opens {
		all[number] = true
	}
	for _, number := range closes {
		all[number] = false
	}
	return api.Lineup{Segments: all[:len(n.Segments)], Ports: all[len(n.Segments):]}
}

// all returns every lineup for n.
func all(n api.Network) []api.Lineup {
	var list []api.Lineup
	for set := range 1 << valves(n) {
		is := make([]bool, valves(n))
		for i := range is {
			is[i] = set>>i&1 == 1
		}
		list = append(list, api.Lineup{Segments: is[:len(n.Segments)], Ports: is[len(n.Segments):]})
	}
	return list
}

// P24.1, P24.2: every lineup of a small network with every plan of small rates.
func TestEveryPlan(t *testing.T) {
	n := row()
	for first := -2; first <= 2; first++ {
		for second := -2; second <= 2; second++ {
			for _, l := range all(n) {
				expectPlan(t, n, l, flowing(first, second))
			}
		}
	}
}

// P24.2: every two lineups of small networks.
func TestEveryTwo(t *testing.T) {
	for _, n := range []api.Network{row(), build(1, nil), build(1, nil, 0, 0, 0), build(2, [][2]int{{0, 1}, {0, 1}}), build(2, [][2]int{{0, 1}, {0, 1}, {1, 0}}, 1)} {
		for _, a := range all(n) {
			for _, b := range all(n) {
				expectTwo(t, n, a, b)
			}
		}
	}
}

// anyNetwork is one of any size.
func anyNetwork(r *rand.Rand) api.Network {
	nodes := 2 + r.Intn(api.MaxNodes-1)
	segments := make([][2]int, r.Intn(api.MaxSegments+1))
	for i := range segments {
		ends := r.Perm(nodes)
		segments[i] = [2]int{ends[0], ends[1]}
	}
	ports := make([]int, r.Intn(api.MaxPorts+1))
	for i := range ports {
		ports[i] = r.Intn(nodes)
	}
	return build(nodes, segments, ports...)
}

// anyPlan is a valid plan for n: some streams from a port to a port, over segments that all lead down a list of the nodes.
func anyPlan(r *rand.Rand, n api.Network) api.Plan {
	p := api.Plan{Rates: make([]int, len(n.Segments)), Ports: make([]int, len(n.Ports))}
	down := r.Perm(len(n.Nodes))
	for range r.Intn(12) {
		if len(n.Ports) > 0 {
			add(r, n, p, down, 1+r.Intn(30))
		}
	}
	return p
}

// add adds a stream to p: from a port downwards, until there is a port at which it can leave.
func add(r *rand.Rand, n api.Network, p api.Plan, down []int, rate int) {
	first := r.Intn(len(n.Ports))
	node, rates := n.Ports[first].Node, slices.Clone(p.Rates)
	for {
		for i, port := range n.Ports {
			if i != first && port.Node == node && p.Ports[i] <= 0 && p.Ports[first] >= 0 && r.Intn(3) > 0 {
				p.Ports[first] += rate
				p.Ports[i] -= rate
				copy(p.Rates, rates)
				return
			}
		}
		next := -1
		for _, i := range r.Perm(len(n.Segments)) {
			s := n.Segments[i]
			if s.From == node && down[s.To] > down[node] {
				next, rates[i] = s.To, rates[i]+rate
				break
			}
			if s.To == node && down[s.From] > down[node] {
				next, rates[i] = s.From, rates[i]-rate
				break
			}
		}
		if next < 0 {
			return
		}
		node = next
	}
}

// anyLineup is one for n, in which most valves are like those of l.
func anyLineup(r *rand.Rand, l api.Lineup) api.Lineup {
	often := []int{2, 5, 100, 1000}[r.Intn(4)]
	change := func(list []bool) []bool {
		list = slices.Clone(list)
		for i := range list {
			if r.Intn(often) == 0 {
				list[i] = !list[i]
			}
		}
		return list
	}
	return api.Lineup{Segments: change(l.Segments), Ports: change(l.Ports)}
}

// P24.1, P24.2: any networks, plans and lineups, against the definitions.
func TestAny(t *testing.T) {
	r := rand.New(rand.NewSource(1))
	count := map[bool]int{}
	for range 4000 {
		n := anyNetwork(r)
		p := anyPlan(r, n)
		if e := flow.Check(n, p); e != api.OK {
			t.Fatalf("the plan %.999s for %.999s has the error %d", text(p), text(n), e)
		}
		need, _ := Need(n, p)
		a := anyLineup(r, need)
		permitted := expectPlan(t, n, a, p)
		if slices.Contains(need.Segments, true) {
			count[permitted]++
		}
		expectTwo(t, n, a, need)
		expectTwo(t, n, need, a)
		expectTwo(t, n, a, anyLineup(r, a))
	}
	if min(count[false], count[true]) < 500 {
		t.Errorf("plans that were permitted, and not: %v", count)
	}
}

// P24.1: any valves, against the definitions.
func TestOfAny(t *testing.T) {
	r := rand.New(rand.NewSource(2))
	for range 2000 {
		n := anyNetwork(r)
		list := make([]api.Valve, valves(n))
		want := api.Lineup{Segments: make([]bool, len(n.Segments)), Ports: make([]bool, len(n.Ports))}
		for i := range list {
			travel := 1 + r.Intn(api.MaxTravel)
			list[i] = api.Valve{Travel: travel, Open: []int{0, r.Intn(travel + 1), travel - 1, travel, travel}[r.Intn(5)], Want: r.Intn(2) > 0, Stuck: r.Intn(2) > 0}
			if i < len(n.Segments) {
				want.Segments[i] = valve.Open(list[i])
			} else {
				want.Ports[i-len(n.Segments)] = valve.Open(list[i])
			}
		}
		expectOf(t, n, list, want)
	}
}

// P24.1, P24.2: valves that are told to open and close by the changes of two lineups make the second one, in time.
func TestCommands(t *testing.T) {
	r := rand.New(rand.NewSource(3))
	for range 500 {
		n := anyNetwork(r)
		a := anyLineup(r, api.Lineup{Segments: make([]bool, len(n.Segments)), Ports: make([]bool, len(n.Ports))})
		b := anyLineup(r, a)
		var list []api.Valve
		for number := range valves(n) {
			v := api.Valve{Travel: 1 + r.Intn(api.MaxTravel)}
			if isOpen(n, a, number) {
				v.Open, v.Want = v.Travel, true
			}
			list = append(list, v)
		}
		expectOf(t, n, list, a)
		opens, closes, _ := Changes(n, a, b)
		for _, number := range opens {
			list[number], _ = valve.Command(list[number], true)
		}
		for _, number := range closes {
			list[number], _ = valve.Command(list[number], false)
		}
		for i, v := range list {
			list[i], _ = valve.Pass(v, api.MaxTravel)
		}
		expectOf(t, n, list, b)
	}
}
