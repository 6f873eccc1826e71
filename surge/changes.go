package surge

import (
	"slices"

	"batchline/api"
	"batchline/steady"
)

// state is what a change leads to.
type state struct {
	tick      int
	plan      api.Plan
	pressures api.Pressures
	rise      []int // of the change; nothing for the first one
}

// solve returns what each of these changes leads to, of which only steady.Solve can have an error.
func solve(n api.Network, batches []api.Batch, products []api.Product, fills [][]api.Piece, changes []api.Change) ([]state, api.Errno) {
	var all []state
	for k, c := range changes {
		x, e := steady.Solve(n, batches, products, fills, c.Plan)
		if e != api.OK {
			return nil, e
		}
		s := state{tick: c.Tick, plan: c.Plan, pressures: x}
		if k > 0 {
			s.rise = riseOf(n, changes[k-1].Plan, c.Plan)
		}
		all = append(all, s)
	}
	return all, api.OK
}

// firstFault returns the first fault of all, and whether there is one.
func firstFault(n api.Network, all []state) (api.Fault, bool) {
	if fault, found := all[0].fault(n, make([]int, len(n.Segments))); found {
		return fault, true
	}
	for k := 1; k < len(all); k++ {
		surge := surgeOf(all[1:k+1], n.Settle)
		// A surge runs through what was there before the change as well as through what comes of it.
		for _, s := range all[k-1 : k+1] {
			if fault, found := s.fault(n, surge); found {
				return fault, true
			}
		}
	}
	return api.Fault{}, false
}

// fault returns the first fault of s with this surge, and whether there is one.
func (s state) fault(n api.Network, surge []int) (api.Fault, bool) {
	return steady.Break(n, s.pressures, s.plan, surge)
}

// surgeOf returns the surge at the last of some changes: its own rise, and those of the others that have not settled.
func surgeOf(changes []state, settle int) []int {
	last := changes[len(changes)-1]
	surge := slices.Clone(last.rise)
	for _, c := range changes[:len(changes)-1] {
		if last.tick-c.tick > settle {
			continue
		}
		for i, rise := range c.rise {
			surge[i] += rise
		}
	}
	return surge
}
