package surge

import (
	"math/rand"
	"slices"
	"strconv"
	"testing"

	"batchline/api"
	"batchline/flow"
	"batchline/steady"
)

// joined tells of any two segments whether they are in one group, by the definition: they are, if they flow and have a node in common, and if each of them is in one group with a third one.
func joined(n api.Network, a, b api.Plan) [][]bool {
	count := len(n.Segments)
	flows := func(i int) bool { return a.Rates[i] != 0 || b.Rates[i] != 0 }
	together := make([][]bool, count)
	for i, s := range n.Segments {
		together[i] = make([]bool, count)
		for j, other := range n.Segments {
			meets := s.From == other.From || s.From == other.To || s.To == other.From || s.To == other.To
			together[i][j] = flows(i) && flows(j) && meets
		}
	}
	for third := range count {
		for i := range count {
			for j := range count {
				if together[i][third] && together[third][j] {
					together[i][j] = true
				}
			}
		}
	}
	return together
}

// groupsByDefinition are the groups of two plans.
func groupsByDefinition(n api.Network, a, b api.Plan) [][]int {
	together := joined(n, a, b)
	var groups [][]int
	for i := range together {
		if !together[i][i] || slices.Contains(together[i][:i], true) {
			continue // it does not flow, or an earlier one has its group
		}
		var group []int
		for j, yes := range together[i] {
			if yes {
				group = append(group, j)
			}
		}
		groups = append(groups, group)
	}
	return groups
}

// riseByDefinition is the rise of a change.
func riseByDefinition(n api.Network, a, b api.Plan) []int {
	together := joined(n, a, b)
	rise := make([]int, len(n.Segments))
	for i := range rise {
		for j, s := range n.Segments {
			if !together[i][j] {
				continue
			}
			if b.Rates[j] > a.Rates[j] {
				rise[i] += (b.Rates[j] - a.Rates[j]) * s.Wave
			} else {
				rise[i] += (a.Rates[j] - b.Rates[j]) * s.Wave
			}
		}
	}
	return rise
}

// surgeByDefinition is the surge of the segment i at the change k.
func (w work) surgeByDefinition(i, k int) int {
	sum := 0
	for j := 1; j <= k; j++ {
		if w.changes[k].Tick <= w.changes[j].Tick+w.n.Settle {
			sum += riseByDefinition(w.n, w.changes[j-1].Plan, w.changes[j].Plan)[i]
		}
	}
	return sum
}

// broken is a fault that is found, with the change and the plan at which it is.
type broken struct {
	fault     api.Fault
	change, p int
}

// first is the first fault of w, which has no error, by the definition; the zero fault if there is none.
func (w work) first(t *testing.T) broken {
	t.Helper()
	for k := range w.changes {
		extra := make([]int, len(w.n.Segments))
		for i := range extra {
			extra[i] = w.surgeByDefinition(i, k)
		}
		for p := max(k-1, 0); p <= k; p++ {
			plan := w.changes[p].Plan
			x, e := steady.Solve(w.n, w.batches, w.products, w.fills, plan)
			if e != api.OK {
				t.Fatalf("%.999s has the error %d", text(w), e)
			}
			if fault, found := steady.Break(w.n, x, plan, extra); found {
				return broken{fault, k, p}
			}
		}
	}
	return broken{}
}

// near is any number from least to most, often one of the two.
func near(r *rand.Rand, least, most int) int {
	switch r.Intn(8) {
	case 0:
		return least
	case 1:
		return most
	}
	return least + r.Intn(most-least+1)
}

// size is how large networks may be.
type size struct{ nodes, pipes, rate int }

// sizes are those of networks.
var sizes = []size{{2, 3, 20}, {4, 6, 20}, {8, 12, 50}, {12, 32, 100}, {24, 32, 300}}

// anyNetwork is one with a port at each node.
func anyNetwork(r *rand.Rand, s size) api.Network {
	nodes := 2 + r.Intn(s.nodes-1)
	var pipes []pipe
	for range r.Intn(s.pipes + 1) {
		ends := r.Perm(nodes)
		pipes = append(pipes, pipe{ends[0], ends[1], near(r, 0, 2000)})
	}
	n := build(nodes, pipes...)
	for i := range n.Ports {
		n.Ports[i].Pressure = near(r, 1000000, 3000000)
	}
	for i := range n.Segments {
		n.Segments[i].Resist = r.Intn(5)
		for k := range n.Segments[i].Points {
			n.Segments[i].Points[k].Height = r.Intn(60)
			n.Segments[i].Points[k].Limit = near(r, 3500000, 5000000)
		}
	}
	for i, node := range r.Perm(nodes)[:r.Intn(min(nodes, 4)+1)] {
		n.Stations = append(n.Stations, api.Station{Name: "pump-" + strconv.Itoa(i), Node: node, Head: near(r, 0, 500000), Fall: near(r, 0, 1000), Suction: near(r, 0, 1000000)})
	}
	n.Vapour, n.Settle = near(r, -100000, 200000), near(r, 0, 30)
	return n
}

// anyRates are so many rates, of which some are 0, that flow down a list of the nodes of n.
func anyRates(r *rand.Rand, n api.Network, most int) []int {
	down, idle := r.Perm(len(n.Nodes)), r.Intn(4)
	rates := make([]int, len(n.Segments))
	for i, s := range n.Segments {
		rate := r.Intn(most + 1)
		if down[s.From] > down[s.To] {
			rate = -rate
		}
		if r.Intn(4) >= idle {
			rates[i] = rate
		}
	}
	return rates
}

// anyPlan is a valid plan for n.
func anyPlan(r *rand.Rand, n api.Network, most int) api.Plan {
	// Where many segments are at a node, a port cannot take up all of it but for lesser rates.
	for ; ; most = most * 3 / 4 {
		p := fed(n, anyRates(r, n, most)...)
		for i := range p.Pumps {
			p.Pumps[i] = r.Intn(2) > 0
		}
		if most == 0 || flow.Check(n, p) == api.OK {
			return p
		}
	}
}

// likePlan is a plan like p, with some lesser rates.
func likePlan(r *rand.Rand, n api.Network, p api.Plan) api.Plan {
	rates := slices.Clone(p.Rates)
	for i := range rates {
		if r.Intn(3) == 0 {
			rates[i] = rates[i] * r.Intn(4) / 3
		}
	}
	like := fed(n, rates...)
	copy(like.Pumps, p.Pumps)
	if flow.Check(n, like) != api.OK {
		return p
	}
	return like
}

// anyWork is a list of changes without an error.
func anyWork(r *rand.Rand, s size) work {
	w := water(anyNetwork(r, s))
	w.products = append(w.products, api.Product{Name: "oil", Density: 850, Friction: 1300})
	w.batches = append(w.batches, api.Batch{Product: 1})
	for i, fill := range w.fills {
		if volume := r.Intn(fill[0].Volume); volume > 0 {
			w.fills[i] = []api.Piece{{Batch: 0, Volume: volume}, {Batch: 1, Volume: fill[0].Volume - volume}}
		}
	}
	tick, p := 0, anyPlan(r, w.n, s.rate)
	for range 1 + r.Intn(8) {
		w.changes = append(w.changes, at(tick, p))
		tick += 1 + r.Intn(12)
		switch r.Intn(6) {
		case 0: // the same plan
		case 1, 2:
			p = anyPlan(r, w.n, s.rate)
		default:
			p = likePlan(r, w.n, p)
		}
	}
	return w
}

// P22.1: any two plans, against the definitions.
func TestRiseAny(t *testing.T) {
	r := rand.New(rand.NewSource(1))
	count := map[int]int{}
	for i := range 4000 {
		s := sizes[i%len(sizes)]
		n := anyNetwork(r, s)
		a, b := anyPlan(r, n, s.rate), anyPlan(r, n, s.rate)
		groups := groupsByDefinition(n, a, b)
		expectRise(t, n, a, b, groups, riseByDefinition(n, a, b))
		count[min(len(groups), 4)]++
	}
	for groups := range 5 {
		if count[groups] < 50 {
			t.Errorf("so many plans with each number of groups: %v", count)
		}
	}
}

// P22.2: any changes, against the definitions.
func TestSafeAny(t *testing.T) {
	r := rand.New(rand.NewSource(2))
	safe, kinds, began, ended, later := 0, map[int]int{}, 0, 0, 0
	for i := range 2500 {
		w := anyWork(r, sizes[i%len(sizes)])
		first := w.first(t)
		w.expect(t, first.fault)
		if first.fault == none {
			safe += len(w.changes)
			continue
		}
		kinds[first.fault.Kind]++
		switch {
		case first.change == 0:
		case first.p == first.change:
			began++
		default:
			ended++
		}
		later += first.change / 2
	}
	if safe < 1000 || min(kinds[1], kinds[2], kinds[3], began, ended, later) < 40 {
		t.Errorf("%d changes were safe; faults: %v; %d where a plan began, %d where it ended, %d later on", safe, kinds, began, ended, later)
	}
}

// Consequences: a change to the same plan has no rise.
func TestSamePlan(t *testing.T) {
	r := rand.New(rand.NewSource(3))
	for i := range 500 {
		s := sizes[i%len(sizes)]
		n := anyNetwork(r, s)
		a, b := anyPlan(r, n, s.rate), anyPlan(r, n, s.rate)
		if rise, e := Rise(n, a, a); slices.ContainsFunc(rise, func(x int) bool { return x != 0 }) || e != api.OK {
			t.Errorf("Rise of %.999s, %.999s to the same = %v, %d", text(n), text(a), rise, e)
		}
		there, _ := Rise(n, a, b)
		if back, _ := Rise(n, b, a); !slices.Equal(there, back) {
			t.Errorf("Rise of %.999s, %.999s, %.999s = %v, and back %v", text(n), text(a), text(b), there, back)
		}
	}
}

// Consequences: by way of a third plan, the rises are at least that of the change itself, where the groups are the same.
func TestThirdPlan(t *testing.T) {
	r := rand.New(rand.NewSource(4))
	looked := 0
	for i := range 4000 {
		s := sizes[i%len(sizes)]
		n := anyNetwork(r, s)
		a := anyPlan(r, n, s.rate)
		b := likePlan(r, n, a)
		c := likePlan(r, n, b)
		groups := func(a, b api.Plan) string {
			g, _ := Groups(n, a, b)
			return text(g)
		}
		if groups(a, b) != groups(a, c) || groups(b, c) != groups(a, c) {
			continue
		}
		looked++
		straight, _ := Rise(n, a, c)
		first, _ := Rise(n, a, b)
		second, _ := Rise(n, b, c)
		for i := range straight {
			if straight[i] > first[i]+second[i] {
				t.Errorf("the rise of %.999s from %.999s to %.999s is %v, by way of %.999s only %v and %v", text(n), text(a), text(c), straight, text(b), first, second)
			}
		}
	}
	if looked < 500 {
		t.Errorf("%d plans were looked at", looked)
	}
}

// Consequences: if a list of changes is safe, so is its beginning; and with a longer Settle, nothing becomes safe that was not.
func TestBeginningAndSettle(t *testing.T) {
	r := rand.New(rand.NewSource(5))
	safe, not := 0, 0
	for i := range 1000 {
		w := anyWork(r, sizes[i%len(sizes)])
		_, e := w.safe()
		if e == api.OK {
			safe += len(w.changes) - 1
			for k := range w.changes[1:] {
				w.with(w.changes[:k+1]...).expect(t, none)
			}
			w.settled(0).expect(t, none)
			w.settled(r.Intn(w.n.Settle+1)).expect(t, none)
			continue
		}
		not++
		for _, settle := range []int{w.n.Settle + 1, w.n.Settle + r.Intn(60), api.MaxSettle} {
			if _, e := w.settled(settle).safe(); e != api.ErrPressure {
				t.Errorf("with the Settle %d, %.999s has the error %d", settle, text(w), e)
			}
		}
	}
	if safe < 300 || not < 150 {
		t.Errorf("%d changes were safe, %d lists were not", safe, not)
	}
}

// Consequences: each plan of a list that is safe is checked without surges, too.
func TestSafeIsChecked(t *testing.T) {
	r := rand.New(rand.NewSource(6))
	looked := 0
	for i := range 1000 {
		w := anyWork(r, sizes[i%len(sizes)])
		if _, e := w.safe(); e != api.OK {
			continue
		}
		for _, c := range w.changes {
			looked++
			if fault, e := steady.Check(w.n, w.batches, w.products, w.fills, c.Plan); fault != none || e != api.OK {
				t.Errorf("%.999s is safe, but the plan at %d has %v, %d", text(w), c.Tick, fault, e)
			}
		}
	}
	if looked < 500 {
		t.Errorf("%d plans were looked at", looked)
	}
}
