package flow

import (
	"math/rand"
	"slices"
	"testing"

	"batchline/api"
)

// firstOrder is the first of all lists of nodes, compared as lists, that begin so and in which every segment flows from an earlier node to a later one.
func firstOrder(n api.Network, p api.Plan, so ...int) []int {
	if len(so) == len(n.Nodes) {
		for i, s := range n.Segments {
			ahead := slices.Index(so, s.To) - slices.Index(so, s.From)
			if p.Rates[i]*ahead < 0 {
				return nil
			}
		}
		return slices.Clone(so)
	}
	for node := range n.Nodes {
		if slices.Contains(so, node) {
			continue
		}
		if order := firstOrder(n, p, append(so, node)...); order != nil {
			return order
		}
	}
	return nil
}

// volumesAt returns what flows at a node: what comes less what leaves, and both together.
func volumesAt(n api.Network, p api.Plan, node int) (over, all int) {
	for i, s := range n.Segments {
		if s.To == node {
			over += p.Rates[i]
		}
		if s.From == node {
			over -= p.Rates[i]
		}
		if s.From == node || s.To == node {
			all += max(p.Rates[i], -p.Rates[i])
		}
	}
	for i, port := range n.Ports {
		if port.Node == node {
			over += p.Ports[i]
			all += max(p.Ports[i], -p.Ports[i])
		}
	}
	return over, all
}

// expectDefinition checks all functions by the definitions, for a plan of a small network that has no error but those of flow. It returns the error of the plan.
func expectDefinition(t *testing.T, n api.Network, p api.Plan) api.Errno {
	t.Helper()
	comes := make([]int, len(n.Nodes))
	for node := range n.Nodes {
		over, all := volumesAt(n, p, node)
		if over != 0 {
			expectError(t, n, p, api.ErrBalance)
			return api.ErrBalance
		}
		comes[node] = all / 2
	}
	order := firstOrder(n, p)
	if order == nil {
		expectError(t, n, p, api.ErrCycle)
		return api.ErrCycle
	}
	feed := 0
	for _, rate := range p.Ports {
		feed += max(rate, -rate)
	}
	expectPlan(t, n, p, order, comes, feed/2)
	return api.OK
}

// P16.1, P16.2: every plan with small rates in a network of three nodes with four segments, balanced or nearly so.
func TestAllPlans(t *testing.T) {
	ends := [][2]int{{0, 1}, {1, 2}, {2, 0}, {0, 1}}
	count := map[api.Errno]int{}
	for number := range 5 * 5 * 5 * 5 {
		rates := make([]int, 4)
		for i, rest := 0, number; i < 4; i, rest = i+1, rest/5 {
			rates[i] = rest%5 - 2
		}
		n, p := fed(3, ends, rates)
		count[expectDefinition(t, n, p)]++
		p.Ports[number%3]++
		count[expectDefinition(t, n, p)]++
		p.Ports[(number+1)%3]--
		count[expectDefinition(t, n, p)]++
	}
	if count[api.OK] < 100 || count[api.ErrCycle] < 100 || count[api.ErrBalance] < 100 {
		t.Errorf("so many plans of each kind: %v", count)
	}
}

// anyEnds are the nodes between which so many segments lie.
func anyEnds(r *rand.Rand, nodes, segments int) [][2]int {
	var ends [][2]int
	for range segments {
		l := r.Perm(nodes)
		ends = append(ends, [2]int{l[0], l[1]})
	}
	return ends
}

// anyRates are so many rates, many of them 0.
func anyRates(r *rand.Rand, count, most int) []int {
	rates := make([]int, count)
	for i := range rates {
		if r.Intn(3) > 0 {
			rates[i] = r.Intn(2*most+1) - most
		}
	}
	return rates
}

// P16.1, P16.2: plans of small networks with any segments, some of them off their balance by a litre.
func TestAnySmall(t *testing.T) {
	r := rand.New(rand.NewSource(1))
	count := map[api.Errno]int{}
	for range 4000 {
		nodes, segments := 2+r.Intn(4), r.Intn(8)
		n, p := fed(nodes, anyEnds(r, nodes, segments), anyRates(r, segments, 3))
		if r.Intn(4) == 0 {
			p.Ports[r.Intn(nodes)] += r.Intn(3) - 1
		}
		count[expectDefinition(t, n, p)]++
	}
	if count[api.OK] < 100 || count[api.ErrCycle] < 100 || count[api.ErrBalance] < 100 {
		t.Errorf("so many plans of each kind: %v", count)
	}
}

// anyLarge is a network of up to the greatest size, with a plan that is valid: it flows down a list of the nodes.
func anyLarge(r *rand.Rand) (api.Network, api.Plan) {
	nodes := 2 + r.Intn(api.MaxNodes-1)
	ends := anyEnds(r, nodes, r.Intn(api.MaxSegments+1))
	rates := anyRates(r, len(ends), 30)
	down := r.Perm(nodes)
	for i, pair := range ends {
		if rates[i]*(down[pair[1]]-down[pair[0]]) < 0 {
			rates[i] = -rates[i]
		}
	}
	return fed(nodes, ends, rates)
}

// flowsTo reports whether a segment flows to a node from one that is not in the list there.
func flowsTo(n api.Network, p api.Plan, node int, there []int) bool {
	for i, s := range n.Segments {
		from, to := s.From, s.To
		if p.Rates[i] < 0 {
			from, to = to, from
		}
		if p.Rates[i] != 0 && to == node && !slices.Contains(there, from) {
			return true
		}
	}
	return false
}

// P16.2: the orders of large plans, node by node.
func TestOrderLarge(t *testing.T) {
	r := rand.New(rand.NewSource(2))
	for range 2000 {
		n, p := anyLarge(r)
		order, e := Order(n, p)
		if e != api.OK || len(order) != len(n.Nodes) {
			t.Fatalf("Order of %v in %v = %v, %d", p, n.Segments, order, e)
		}
		for i, next := range order {
			for node := range n.Nodes {
				can := !slices.Contains(order[:i], node) && !flowsTo(n, p, node, order[:i])
				if node < next && can || node == next && !can {
					t.Errorf("Order of %v in %v = %v: %d at %d", p, n.Segments, order, next, i)
				}
			}
		}
	}
}

// negated is the plan in which every rate is negated.
func negated(p api.Plan) api.Plan {
	rates, ports := slices.Clone(p.Rates), slices.Clone(p.Ports)
	for _, l := range [][]int{rates, ports} {
		for i := range l {
			l[i] = -l[i]
		}
	}
	return api.Plan{Rates: rates, Ports: ports, Pumps: p.Pumps}
}

// P16.1, P16.2: a plan and its negation are valid together, as much flows in by one as out by the other, and the same through each node.
func TestNegated(t *testing.T) {
	r := rand.New(rand.NewSource(3))
	for range 2000 {
		n, p := anyLarge(r)
		back := negated(p)
		in, out, _ := Feeds(n, p)
		backIn, backOut, e := Feeds(n, back)
		if e != api.OK || in != out || backIn != in || backOut != in {
			t.Errorf("Feeds of %v in %v = %d, %d, and negated %d, %d, %d", p, n.Segments, in, out, backIn, backOut, e)
		}
		for node := range n.Nodes {
			there, _ := Through(n, p, node)
			if again, e := Through(n, back, node); again != there || e != api.OK {
				t.Errorf("Through at %d of %v = %d, and negated %d, %d", node, p, there, again, e)
			}
		}
	}
}

// P16.1: plans that are added stay balanced; what flows in a circle on top of one is balanced, too.
func TestAdded(t *testing.T) {
	r := rand.New(rand.NewSource(4))
	count := map[api.Errno]int{}
	for range 2000 {
		nodes, segments := 2+r.Intn(8), 1+r.Intn(12)
		ends := anyEnds(r, nodes, segments)
		n, p := fed(nodes, ends, anyRates(r, segments, 30))
		_, q := fed(nodes, ends, anyRates(r, segments, 30))
		sum := plan(slices.Clone(p.Rates), slices.Clone(p.Ports)...)
		for i, rate := range q.Rates {
			sum.Rates[i] += rate
		}
		for i, rate := range q.Ports {
			sum.Ports[i] += rate
		}
		e := Check(n, sum)
		if e != api.OK && e != api.ErrCycle {
			t.Errorf("the sum of %v and %v in %v has the error %d", p, q, n.Segments, e)
		}
		count[e]++
	}
	if count[api.OK] < 100 || count[api.ErrCycle] < 100 {
		t.Errorf("so many sums of each kind: %v", count)
	}
}

// P16.1: what flows in a circle on top of a plan that is valid, through any nodes, is an error.
func TestCircleOnTop(t *testing.T) {
	r := rand.New(rand.NewSource(5))
	for range 1000 {
		n, p := anyLarge(r)
		around := r.Perm(len(n.Nodes))[:2+r.Intn(len(n.Nodes)-1)]
		if len(n.Segments)+len(around) > api.MaxSegments {
			continue
		}
		var ends [][2]int
		for _, s := range n.Segments {
			ends = append(ends, [2]int{s.From, s.To})
		}
		rates := slices.Clone(p.Rates)
		for i, node := range around {
			next, rate := around[(i+1)%len(around)], 1+r.Intn(30)
			if r.Intn(2) == 0 {
				ends, rates = append(ends, [2]int{node, next}), append(rates, rate)
			} else {
				ends, rates = append(ends, [2]int{next, node}), append(rates, -rate)
			}
		}
		n, p = fed(len(n.Nodes), ends, rates)
		expectError(t, n, p, api.ErrCycle)
	}
}
