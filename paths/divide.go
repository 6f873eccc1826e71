package paths

import (
	"slices"

	"batchline/api"
	"batchline/flow"
)

// Divide returns the paths of the plan p.
func Divide(n api.Network, p api.Plan) ([]api.Path, api.Errno) {
	if e := flow.Check(n, p); e != api.OK { // network.Check is the first part of it
		return nil, e
	}
	left := api.Plan{Rates: slices.Clone(p.Rates), Ports: slices.Clone(p.Ports)}
	var all []api.Path
	for in := range n.Ports {
		for left.Ports[in] > 0 {
			path := follow(n, left, in)
			add(left, path, -path.Rate)
			all = append(all, path)
		}
	}
	if areTooMany(all) { // not with the limits as they are: each path uses up a rate, and passes no node twice
		return nil, api.ErrPath
	}
	return all, api.OK
}

// follow returns the path from the port in on, with the least rate that is left on it.
func follow(n api.Network, left api.Plan, in int) api.Path {
	path := api.Path{In: in, Rate: left.Ports[in]}
	node := n.Ports[in].Node
search:
	for range n.Nodes { // as there are no circles, no node is passed twice
		for out, port := range n.Ports {
			if port.Node == node && left.Ports[out] < 0 {
				path.Out = out
				path.Rate = min(path.Rate, -left.Ports[out])
				break search
			}
		}
		for segment, rate := range left.Rates {
			hop := api.Hop{Segment: segment, Back: rate < 0}
			begin, end := ends(n, hop)
			if rate != 0 && begin == node {
				path.Hops = append(path.Hops, hop)
				path.Rate = min(path.Rate, max(rate, -rate))
				node = end
				continue search // the rates are balanced, so more leaves the end, too
			}
		}
	}
	return path
}

// areTooMany reports whether there are more paths, or more hops of one, than there may be.
func areTooMany(l []api.Path) bool {
	for _, p := range l {
		if len(p.Hops) > api.MaxHops {
			return true
		}
	}
	return len(l) > api.MaxPaths
}
