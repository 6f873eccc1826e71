package gradient

import (
	"slices"

	"batchline/api"
	"batchline/product"
	"batchline/round"
)

const (
	maxBound = 1 << 50 // of the pressure with which a segment is entered
	gravity  = 9807    // thousandths of a metre per second, per second
	thousand = 1000    // gravity, and the friction of a product, are in thousandths
)

// stream is what flows in a segment.
type stream struct {
	segment  api.Segment
	fill     []api.Piece
	batches  []api.Batch
	products []api.Product
	rate     int
}

// part is what lies between two neighbouring breaks, in the section between the point with the number section and the next one.
type part struct{ from, to, batch, section int }

// fraction is the pressure dividend / divisor.
type fraction struct{ dividend, divisor int }

// check returns the first error of the stream st that enters with the bounds in, or OK.
func (st stream) check(in api.Bounds) api.Errno {
	if e := checkFill(st.segment, st.fill); e != api.OK {
		return e
	}
	if e := product.Check(st.products); e != api.OK {
		return e
	}
	switch {
	case slices.ContainsFunc(st.fill, st.isUnknown):
		return api.ErrUnknown
	case st.rate == 0 || st.rate < -api.MaxRate || st.rate > api.MaxRate:
		return api.ErrRange
	case in.Low > in.High || in.Low < -maxBound || in.High > maxBound:
		return api.ErrRange
	}
	return api.OK
}

// isUnknown reports whether p has no batch, or its batch no product.
func (st stream) isUnknown(p api.Piece) bool {
	if p.Batch >= len(st.batches) {
		return true
	}
	i := st.batches[p.Batch].Product
	return i < 0 || i >= len(st.products)
}

// turned returns st as it is from the other end of its segment.
func (st stream) turned() stream {
	points, fill := slices.Clone(st.segment.Points), slices.Clone(st.fill)
	slices.Reverse(points)
	slices.Reverse(fill)
	for i := range points {
		points[i].At = st.segment.Capacity - points[i].At
	}
	st.segment.Points, st.fill = points, fill
	return st
}

// turnLevels makes levels those from the other end of their segment.
func turnLevels(levels []api.Level, capacity int) {
	slices.Reverse(levels)
	for i := range levels {
		levels[i].At = capacity - levels[i].At
	}
}

// levels returns the levels of st, which flows from the first point to the last one, and enters with these bounds.
func (st stream) levels(bounds api.Bounds) []api.Level {
	levels := []api.Level{{At: 0, Bounds: bounds}}
	for _, p := range partsOf(st.segment.Points, st.fill) {
		for _, loss := range []fraction{st.friction(p), st.lift(p)} {
			bounds.High -= round.Down(loss.dividend, loss.divisor)
			bounds.Low -= round.Up(loss.dividend, loss.divisor)
		}
		levels = append(levels, api.Level{At: p.to, Bounds: bounds})
	}
	return levels
}

// friction returns what is lost in p by friction. Even the greatest dividend, 2 * 10^18, is one that round divides.
func (st stream) friction(p part) fraction {
	friction := st.productOf(p).Friction
	return fraction{
		st.segment.Resist * friction * st.rate * st.rate * (p.to - p.from),
		thousand * st.segment.Capacity,
	}
}

// lift returns what is lost in p by its height.
func (st stream) lift(p part) fraction {
	first, last := st.segment.Points[p.section], st.segment.Points[p.section+1]
	return fraction{
		st.productOf(p).Density * gravity * (last.Height - first.Height) * (p.to - p.from),
		thousand * (last.At - first.At),
	}
}

// productOf returns the product of p.
func (st stream) productOf(p part) api.Product {
	return st.products[st.batches[p.batch].Product]
}

// partsOf returns the parts of a segment with these points and the fill f, which is just as long.
func partsOf(points []api.Point, f []api.Piece) []part {
	var parts []part
	at, end, section := 0, 0, 0
	for _, p := range f {
		end += p.Volume
		for at < end {
			next := points[section+1].At
			to := min(end, next)
			parts = append(parts, part{at, to, p.Batch, section})
			if to == next {
				section++
			}
			at = to
		}
	}
	return parts
}
