package steady

import (
	"slices"

	"batchline/api"
	"batchline/network"
)

const (
	maxExtra = 1 << 50
	maxBound = 1 << 60 // of pressures that are looked at
)

// held is pressures that are held against an envelope, with what is added to them.
type held struct {
	network   api.Network
	pressures api.Pressures
	plan      api.Plan
	extra     []int
}

// look tells which fault of one kind there is at the place with the number k, and whether there is one.
type look func(k int) (api.Fault, bool)

// places are so many places, and what is looked for at each one of them.
type places struct {
	count int
	looks []look
}

// fits reports whether the lists of h belong to its network, and its numbers are in their ranges.
func (h held) fits() bool {
	n, x := h.network, h.pressures
	if network.Check(n) != api.OK || len(h.plan.Pumps) != len(n.Stations) ||
		len(x.Known) != len(n.Nodes) || len(x.Nodes) != len(n.Nodes) ||
		len(x.Segments) != len(n.Segments) || len(h.extra) != len(n.Segments) {
		return false
	}
	for i, pipe := range n.Segments {
		isWrong := func(l api.Level) bool {
			return l.At < 0 || l.At > pipe.Capacity || isBeyond(l.Bounds)
		}
		if h.extra[i] < 0 || h.extra[i] > maxExtra || slices.ContainsFunc(x.Segments[i], isWrong) {
			return false
		}
	}
	return !slices.ContainsFunc(x.Nodes, isBeyond)
}

// isBeyond reports whether one of the bounds is too great or too little.
func isBeyond(b api.Bounds) bool {
	return min(b.Low, b.High) < -maxBound || max(b.Low, b.High) > maxBound
}

// firstFault returns the first fault of h, which fits, and whether there is one.
func (h held) firstFault() (api.Fault, bool) {
	fault, found := api.Fault{}, false
search:
	for _, all := range h.allPlaces() {
		for k := range all.count {
			for _, look := range all.looks {
				if fault, found = look(k); found {
					break search
				}
			}
		}
	}
	return fault, found
}

// allPlaces returns the levels of each segment, and behind them the stations.
func (h held) allPlaces() []places {
	var all []places
	for i, levels := range h.pressures.Segments {
		all = append(all, places{len(levels), []look{h.high(i), h.low(i)}})
	}
	return append(all, places{len(h.network.Stations), []look{h.suction()}})
}

// high returns what looks for a level of the segment i that is above its limit.
func (h held) high(i int) look {
	return func(k int) (api.Fault, bool) {
		l := h.pressures.Segments[i][k]
		if l.Bounds.High+h.extra[i] <= limitAt(h.network.Segments[i].Points, l.At) {
			return api.Fault{}, false
		}
		return api.Fault{Kind: api.FaultHigh, Index: i, At: l.At}, true
	}
}

// low returns what looks for a level of the segment i that is below Vapour.
func (h held) low(i int) look {
	return func(k int) (api.Fault, bool) {
		l := h.pressures.Segments[i][k]
		if l.Bounds.Low-h.extra[i] >= h.network.Vapour {
			return api.Fault{}, false
		}
		return api.Fault{Kind: api.FaultLow, Index: i, At: l.At}, true
	}
}

// suction returns what looks for a station that runs with too little pressure.
func (h held) suction() look {
	return func(k int) (api.Fault, bool) {
		pump := h.network.Stations[k]
		if !h.plan.Pumps[k] || !h.pressures.Known[pump.Node] || h.pressures.Nodes[pump.Node].Low >= pump.Suction {
			return api.Fault{}, false
		}
		return api.Fault{Kind: api.FaultSuction, Index: k}, true
	}
}

// limitAt returns the greatest pressure at a place of a segment with these points.
func limitAt(points []api.Point, at int) int {
	limit := api.MaxPressure
	for i := 1; i < len(points); i++ {
		first, last := points[i-1], points[i]
		if first.At <= at && at <= last.At {
			limit = min(limit, first.Limit, last.Limit)
		}
	}
	return limit
}
