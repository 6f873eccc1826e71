package advance

import (
	"iter"
	"slices"

	"batchline/api"
	"batchline/deal"
	"batchline/piece"
)

// Directions of flow at a node, as factors of rates that are positive towards it.
const (
	comes  = 1
	leaves = -1
)

// mover carries out a valid plan, tick by tick.
type mover struct {
	network  api.Network
	plan     api.Plan
	feeds    []int
	order    []int         // the nodes in the order of flow
	fills    [][]api.Piece // of each segment
	given    [][]api.Piece // what each segment has given out in this tick
	received [][]api.Piece // what has flowed out at each port in all ticks
}

// tick moves everything by a tick. Its error is OK or ErrLimit.
func (m *mover) tick() api.Errno {
	m.given = make([][]api.Piece, len(m.fills))
	for _, node := range m.order {
		stream, e := m.streamAt(node)
		if e != api.OK {
			return e
		}
		if e := m.divide(stream, node); e != api.OK {
			return e
		}
	}
	return api.OK
}

// streamAt returns the stream of node, behind all nodes from which something flows to it.
func (m *mover) streamAt(node int) ([]api.Piece, api.Errno) {
	var parts [][]api.Piece
	for i, amount := range m.portsAt(node, comes) {
		parts = append(parts, []api.Piece{{Batch: m.feeds[i], Volume: amount}})
	}
	for i := range m.segmentsAt(node, comes) {
		parts = append(parts, m.given[i])
	}
	var stream []api.Piece
	for _, part := range parts {
		var e api.Errno
		// One after the other, since all at once may be more pieces than can be merged.
		if stream, e = join(stream, part); e != api.OK {
			return nil, e
		}
	}
	return stream, api.OK
}

// divide deals the stream of node to the ports and segments over which it leaves.
func (m *mover) divide(stream []api.Piece, node int) api.Errno {
	rates := m.ratesFrom(node)
	if len(rates) == 0 {
		return api.OK // nothing comes there, either
	}
	lists, e := deal.Deal(stream, rates)
	if e != api.OK {
		return e
	}
	for i := range m.portsAt(node, leaves) {
		if m.received[i], e = join(m.received[i], lists[0]); e != api.OK {
			return e
		}
		lists = lists[1:]
	}
	for i := range m.segmentsAt(node, leaves) {
		if e := m.push(lists[0], i); e != api.OK {
			return e
		}
		lists = lists[1:]
	}
	return api.OK
}

// ratesFrom returns the amounts of what leaves node: over its ports, and then over its segments.
func (m *mover) ratesFrom(node int) []int {
	var rates []int
	for _, amount := range m.portsAt(node, leaves) {
		rates = append(rates, amount)
	}
	for _, amount := range m.segmentsAt(node, leaves) {
		rates = append(rates, amount)
	}
	return rates
}

// push pushes in, whose first litre goes in first, into a segment, which gives out what leaves it. It may reverse in.
func (m *mover) push(in []api.Piece, segment int) api.Errno {
	back := m.plan.Rates[segment] < 0
	if !back {
		slices.Reverse(in)
	}
	fill, out, e := piece.Push(m.fills[segment], in, back)
	if e != api.OK {
		return e
	}
	if !back {
		slices.Reverse(out)
	}
	m.fills[segment], m.given[segment] = fill, out
	return api.OK
}

// portsAt goes through the ports at node over which something flows in a direction, with the amounts of their rates.
func (m *mover) portsAt(node, direction int) iter.Seq2[int, int] {
	return func(yield func(int, int) bool) {
		for i, port := range m.network.Ports {
			amount := direction * m.plan.Ports[i]
			if port.Node == node && amount > 0 && !yield(i, amount) {
				return
			}
		}
	}
}

// segmentsAt goes through the segments over which something flows to node, or from it, with the amounts of their rates.
func (m *mover) segmentsAt(node, direction int) iter.Seq2[int, int] {
	return func(yield func(int, int) bool) {
		for i, s := range m.network.Segments {
			amount := 0
			switch node {
			case s.To:
				amount = direction * m.plan.Rates[i]
			case s.From:
				amount = -direction * m.plan.Rates[i]
			}
			if amount > 0 && !yield(i, amount) {
				return
			}
		}
	}
}

// join returns the pieces of a and those of b behind them, merged. The error is ErrLimit if there are too many of them.
func join(a, b []api.Piece) ([]api.Piece, api.Errno) {
	all := piece.Merge(slices.Concat(a, b))
	if len(all) > api.MaxPieces {
		return nil, api.ErrLimit
	}
	return all, api.OK
}
