package surge

import "batchline/api"

// parents are those of the nodes: from parent to parent, nodes whose ends are joined come to the same node, which is its own parent.
type parents [api.MaxNodes]int

// apart returns the parents of nodes of which none are joined.
func apart() parents {
	var p parents
	for node := range p {
		p[node] = node
	}
	return p
}

// root returns the node to which one comes from parent to parent.
func (p *parents) root(node int) int {
	for p[node] != node {
		p[node] = p[p[node]] // the next search is shorter
		node = p[node]
	}
	return node
}

// join joins two nodes.
func (p *parents) join(a, b int) {
	from, to := p.root(a), p.root(b)
	p[from] = to
}

// groupsOf returns the groups of two valid plans: the segments that flow are gone through in order, and a group begins with the first one of its root.
func groupsOf(n api.Network, a, b api.Plan) [][]int {
	flowing := flowingOf(a, b)
	nodes := apart()
	for _, i := range flowing {
		nodes.join(n.Segments[i].From, n.Segments[i].To)
	}
	var groups [][]int
	var begun [api.MaxNodes]int // for each root, the number of the groups with which its own was there
	for _, i := range flowing {
		root := nodes.root(n.Segments[i].From)
		if begun[root] == 0 {
			groups = append(groups, nil)
			begun[root] = len(groups)
		}
		k := begun[root] - 1
		groups[k] = append(groups[k], i)
	}
	return groups
}

// flowingOf returns the segments that flow in at least one of two valid plans.
func flowingOf(a, b api.Plan) []int {
	var all []int
	for i := range a.Rates {
		if a.Rates[i] != 0 || b.Rates[i] != 0 {
			all = append(all, i)
		}
	}
	return all
}

// riseOf returns the rise of the change from the valid plan a to the valid plan b.
func riseOf(n api.Network, a, b api.Plan) []int {
	rise := make([]int, len(n.Segments))
	for _, group := range groupsOf(n, a, b) {
		sum := 0
		for _, i := range group {
			change := b.Rates[i] - a.Rates[i]
			sum += n.Segments[i].Wave * max(change, -change)
		}
		for _, i := range group {
			rise[i] = sum
		}
	}
	return rise
}
