package step

import (
	"slices"

	"batchline/api"
	"batchline/flow"
	"batchline/paths"
	"batchline/valve"
)

// carrier carries out a step of one kind, which has only fields of this kind, on a valid desk. It changes the lists of the desk in place; with an error it may have changed some of them.
type carrier func(n api.Network, d api.Desk, s api.Step) api.Errno

// carriers returns what carries out the steps of each kind; there is no kind 0.
func carriers() [api.StepWait + 1]carrier {
	return [api.StepWait + 1]carrier{
		api.StepOpen:  openValve,
		api.StepClose: closeValve,
		api.StepStart: startStation,
		api.StepStop:  stopStation,
		api.StepFlow:  changeFlow,
		api.StepWait:  wait,
	}
}

// hasKind reports whether there are steps of the kind of s.
func hasKind(s api.Step) bool {
	return api.StepOpen <= s.Kind && s.Kind <= api.StepWait
}

// usesOnlyItsFields reports whether all fields of s are zero that its kind does not use.
func usesOnlyItsFields(s api.Step) bool {
	switch s.Kind {
	case api.StepFlow:
		return s.Index == 0 && s.Path.Rate == 0
	case api.StepWait:
		return s.Index == 0 && isZero(s.Path)
	}
	return s.Value == 0 && isZero(s.Path)
}

// isZero reports whether p is the zero value.
func isZero(p api.Path) bool {
	return p.In == 0 && p.Out == 0 && len(p.Hops) == 0 && p.Rate == 0
}

// openValve tells a valve to open.
func openValve(_ api.Network, d api.Desk, s api.Step) api.Errno {
	if !isIndex(s.Index, len(d.Valves)) {
		return api.ErrUnknown
	}
	return command(d, s.Index, true)
}

// closeValve tells a valve to close, if nothing flows through it.
func closeValve(n api.Network, d api.Desk, s api.Step) api.Errno {
	if !isIndex(s.Index, len(d.Valves)) {
		return api.ErrUnknown
	}
	needed, e := neededValves(n, d.Plan)
	switch {
	case e != api.OK:
		return e
	case needed[s.Index]:
		return api.ErrStep
	}
	return command(d, s.Index, false)
}

// command tells the valve with this number to open, or to close.
func command(d api.Desk, number int, open bool) api.Errno {
	var e api.Errno
	d.Valves[number], e = valve.Command(d.Valves[number], open)
	return e
}

// startStation lets a station run, if there is something to pump.
func startStation(n api.Network, d api.Desk, s api.Step) api.Errno {
	switch {
	case !isIndex(s.Index, len(d.Plan.Pumps)):
		return api.ErrUnknown
	case !hasFlow(n, d.Plan, s.Index):
		return api.ErrStep
	}
	d.Plan.Pumps[s.Index] = true
	return api.OK
}

// stopStation lets a station stand still.
func stopStation(_ api.Network, d api.Desk, s api.Step) api.Errno {
	if !isIndex(s.Index, len(d.Plan.Pumps)) {
		return api.ErrUnknown
	}
	d.Plan.Pumps[s.Index] = false
	return api.OK
}

// changeFlow lets the flow of a path grow, or fall.
func changeFlow(n api.Network, d api.Desk, s api.Step) api.Errno {
	path := s.Path
	path.Rate = max(s.Value, -s.Value) // the least integer stays negative, which is no rate either
	if !paths.Valid(n, path) {
		return api.ErrPath
	}
	rates := slices.Concat(d.Plan.Rates, d.Plan.Ports)
	for _, x := range passagesOf(n, path) {
		ahead := x.direction * rates[x.number]
		if !staysOpen(d.Valves[x.number]) || ahead < 0 || ahead+s.Value < 0 {
			return api.ErrStep
		}
		rates[x.number] += x.direction * s.Value
	}
	copy(d.Plan.Rates, rates)
	copy(d.Plan.Ports, rates[len(n.Segments):])
	if e := flow.Check(n, d.Plan); e != api.OK {
		return e
	}
	if pumpsNothing(n, d.Plan) {
		return api.ErrStep
	}
	return api.OK
}

// passage is where a path passes a valve: its number, and whether the rate there is positive (1) or negative (-1) if the path flows.
type passage struct{ number, direction int }

// passagesOf returns the passages of p, which is valid: each valve is passed only once, since no node is.
func passagesOf(n api.Network, p api.Path) []passage {
	segments := len(n.Segments)
	all := []passage{{segments + p.In, 1}, {segments + p.Out, -1}}
	for _, h := range p.Hops {
		direction := 1
		if h.Back {
			direction = -1
		}
		all = append(all, passage{h.Segment, direction})
	}
	return all
}

// wait lets ticks go by.
func wait(_ api.Network, d api.Desk, s api.Step) api.Errno {
	if !isWait(s.Value) {
		return api.ErrRange
	}
	for i, v := range d.Valves {
		passed, e := valve.Pass(v, s.Value)
		if e != api.OK {
			return e
		}
		d.Valves[i] = passed
	}
	return api.OK
}

// isWait reports whether a wait may be so many ticks.
func isWait(ticks int) bool {
	return 1 <= ticks && ticks <= api.MaxWait
}

// isIndex reports whether i is an index of a list with count elements.
func isIndex(i, count int) bool {
	return 0 <= i && i < count
}
