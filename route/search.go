package route

import (
	"slices"

	"batchline/api"
)

// search finds the nodes to which there are ways from a node.
type search struct {
	network api.Network
	closed  []bool
	queue   []int                 // the nodes found so far
	found   [api.MaxNodes]bool    // whether a node is in the queue
	last    [api.MaxNodes]api.Hop // of the least way to a node that is found
}

// searchFrom returns all that is found from node on.
//
// Nodes enter the queue in the order of the least ways to them: those with fewer hops first, and of those with as many,
// the ones that are found from an earlier node, or over a lesser segment. So the first way that finds a node is the least.
func searchFrom(n api.Network, closed []bool, node int) search {
	s := search{network: n, closed: closed}
	s.add(node, api.Hop{})
	for looked := 0; looked < len(s.queue); {
		// It ends at its capacity, so that it is apart from the nodes that are added behind it while it is gone through.
		waiting := s.queue[looked:len(s.queue):len(s.queue)]
		for _, node := range waiting {
			s.look(node)
		}
		looked += len(waiting)
	}
	return s
}

// look adds the nodes that are one hop away from node.
func (s *search) look(node int) {
	for i, closed := range s.closed {
		if closed {
			continue
		}
		for _, back := range []bool{false, true} {
			h := api.Hop{Segment: i, Back: back}
			if begin, end := ends(s.network, h); begin == node {
				s.add(end, h)
			}
		}
	}
}

// add adds node, to which last is the last hop, unless it was found before.
func (s *search) add(node int, last api.Hop) {
	if s.found[node] {
		return
	}
	s.found[node] = true
	s.last[node] = last
	s.queue = append(s.queue, node)
}

// nodes returns the nodes that were found, ascending.
func (s search) nodes() []int {
	return slices.Sorted(slices.Values(s.queue))
}

// wayTo returns the least way to node, which was found.
func (s search) wayTo(node int) []api.Hop {
	var way []api.Hop
	for node != s.queue[0] {
		h := s.last[node]
		way = append(way, h)
		node, _ = ends(s.network, h)
	}
	slices.Reverse(way)
	return way
}
