package steady

import (
	"slices"

	"batchline/advance"
	"batchline/api"
	"batchline/flow"
	"batchline/gradient"
	"batchline/product"
	"batchline/station"
)

// system is a network with what it holds and what flows in it.
type system struct {
	network  api.Network
	batches  []api.Batch
	products []api.Product
	fills    [][]api.Piece
	plan     api.Plan
}

// order returns the nodes in the order of flow, or the first error of s.
func (s system) order() ([]int, api.Errno) {
	order, e := flow.Order(s.network, s.plan)
	if e != api.OK {
		return nil, e
	}
	if e := advance.Check(s.network, s.fills); e != api.OK {
		return nil, e
	}
	if e := product.Check(s.products); e != api.OK {
		return nil, e
	}
	for _, f := range s.fills {
		if slices.ContainsFunc(f, s.isUnknown) {
			return nil, api.ErrUnknown
		}
	}
	return order, api.OK
}

// isUnknown reports whether p has no batch, or its batch no product.
func (s system) isUnknown(p api.Piece) bool {
	if p.Batch >= len(s.batches) {
		return true
	}
	i := s.batches[p.Batch].Product
	return i < 0 || i >= len(s.products)
}

// pressures returns the pressures of s, which has no error, node by node in this order.
func (s system) pressures(order []int) api.Pressures {
	x := api.Pressures{
		Known:    make([]bool, len(s.network.Nodes)),
		Nodes:    make([]api.Bounds, len(s.network.Nodes)),
		Segments: make([][]api.Level, len(s.network.Segments)),
	}
	for _, node := range order {
		comes := s.comes(node, x.Segments)
		if len(comes) == 0 {
			continue
		}
		x.Known[node], x.Nodes[node] = true, least(comes)
		leaving := s.leaving(node)
		in := s.raised(node, x.Nodes[node], leaving)
		for _, i := range leaving {
			x.Segments[i] = s.levels(i, in)
		}
	}
	return x
}

// comes returns the bounds of all that comes to node: by then, each segment that flows to it has levels.
func (s system) comes(node int, levels [][]api.Level) []api.Bounds {
	var all []api.Bounds
	for i, port := range s.network.Ports {
		if port.Node == node && s.plan.Ports[i] > 0 {
			all = append(all, api.Bounds{Low: port.Pressure, High: port.Pressure})
		}
	}
	for i, pipe := range s.network.Segments {
		rate := s.plan.Rates[i]
		switch {
		case rate > 0 && pipe.To == node:
			all = append(all, levels[i][len(levels[i])-1].Bounds)
		case rate < 0 && pipe.From == node:
			all = append(all, levels[i][0].Bounds)
		}
	}
	return all
}

// least returns the least Low and the least High of all, of which there is at least one.
func least(all []api.Bounds) api.Bounds {
	bounds := all[0]
	for _, b := range all {
		bounds.Low, bounds.High = min(bounds.Low, b.Low), min(bounds.High, b.High)
	}
	return bounds
}

// leaving returns the segments that flow from node.
func (s system) leaving(node int) []int {
	var all []int
	for i, pipe := range s.network.Segments {
		rate := s.plan.Rates[i]
		if rate > 0 && pipe.From == node || rate < 0 && pipe.To == node {
			all = append(all, i)
		}
	}
	return all
}

// raised returns the bounds of node as they are behind its station, if one runs there, for the segments that leave it.
func (s system) raised(node int, bounds api.Bounds, leaving []int) api.Bounds {
	through := 0
	for _, i := range leaving {
		through += max(s.plan.Rates[i], -s.plan.Rates[i])
	}
	for i, pump := range s.network.Stations {
		if pump.Node == node && s.plan.Pumps[i] {
			// This has no error, since no bounds get near 2^50: what flows comes to a node only once, and no port, station or segment adds or takes more than 2^31 Pa.
			bounds, _ = station.Raise(pump, bounds, through)
		}
	}
	return bounds
}

// levels returns the levels of the segment i, which flows and is entered with the bounds in. Along has no error here, for the reason for which Raise has none.
func (s system) levels(i int, in api.Bounds) []api.Level {
	levels, _ := gradient.Along(s.network.Segments[i], s.fills[i], s.batches, s.products, s.plan.Rates[i], in)
	return levels
}
