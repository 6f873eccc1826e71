package advance

import (
	"slices"
	"testing"

	"batchline/api"
)

// single is a pipe with this fill, through which rate flows from the port 0 to the port 1, or back.
func single(fill []api.Piece, rate, feed int) work {
	capacity := 0
	for _, p := range fill {
		capacity += p.Volume
	}
	return work{build(2, []pipe{{0, 1, capacity}}, 0, 1), lists(fill), plan([]int{rate}, rate, -rate), []int{feed, feed}}
}

// P18.2: a fill may have MaxPieces pieces, and no more.
func TestFillLimit(t *testing.T) {
	full := striped(200, 5)
	single(full, 4, 2).expectLimit(t, 1)
	single(full, 4, 1).expectLimit(t, 1)
	single(full, -4, 2).expectLimit(t, 1)
	single(full, -4, 0).expectLimit(t, 1)
	// What merges with the fill needs no piece of its own, nor does what takes the place of a piece that leaves.
	single(full, 4, 0).expectTick(t, lists(slices.Concat(pieces(0, 9), full[1:199], pieces(1, 1))), lists(nil, pieces(1, 4)))
	single(full, -4, 1).expectTick(t, lists(slices.Concat(pieces(0, 1), full[1:199], pieces(1, 9))), lists(pieces(0, 4), nil))
	single(full, 5, 2).expectTick(t, lists(slices.Concat(pieces(2, 5), full[:199])), lists(nil, pieces(1, 5)))
	single(full, -5, 2).expectTick(t, lists(slices.Concat(full[1:], pieces(2, 5))), lists(pieces(0, 5), nil))
	single(full[:199], 4, 2).expectTick(t, lists(slices.Concat(pieces(2, 4), full[:198], pieces(0, 1))), lists(nil, pieces(0, 4)))
	single(full, 1000, 2).expectTick(t, lists(pieces(2, 1000)), lists(nil, reversed(full)))
	single(full, -1000, 2).expectTick(t, lists(pieces(2, 1000)), lists(full, nil))
}

// reversed is list from its end.
func reversed(list []api.Piece) []api.Piece {
	list = slices.Clone(list)
	slices.Reverse(list)
	return list
}

// P18.3: a fill that gets too many pieces in a later tick, of another segment.
func TestRunFillLimit(t *testing.T) {
	for _, already := range []int{1, 2, 151, 199, 200} {
		// Each tick brings a piece to the second pipe, whose last piece stays.
		work{
			build(3, []pipe{{0, 1, 200}, {1, 2, 1000}}, 0, 2),
			lists(striped(200, 1), append(striped(already-1, 1), pieces(7, 1001-already)...)),
			plan([]int{1, 1}, 1, -1),
			[]int{0, 0},
		}.expectLimit(t, 201-already)
	}
}

// meeting are pipes to a node with three ports, each from a node of its own with a port; they are full of pieces of a litre, of two batches in turn, and flow at these rates. All leaves by the first of the three ports; the batch 1 comes first.
func meeting(rates ...int) work {
	var w work
	var pipes []pipe
	var ports []int
	end, all := len(rates), 0
	for i, rate := range rates {
		pipes, ports = append(pipes, pipe{i, end, 200}), append(ports, i)
		w.fills = append(w.fills, striped(200, 1))
		all += rate
	}
	w.n = build(end+1, pipes, append(ports, end, end, end)...)
	w.p = plan(rates, append(slices.Clone(rates), -all, 0, 0)...)
	w.feeds = make([]int, end+3)
	return w
}

// expectOut checks what flows out at a port in a tick.
func (w work) expectOut(t *testing.T, port int, want []api.Piece) {
	t.Helper()
	if _, out, e := Tick(w.n, w.fills, w.p, w.feeds); e != api.OK || !slices.Equal(out[port], want) {
		t.Errorf("of %.999s there leave %.999s, %d, want %.999s", text(w), text(out), e, text(want))
	}
}

// P18.2: a stream may have MaxPieces pieces, and no more, whatever its parts are.
func TestStreamLimit(t *testing.T) {
	whole := reversed(striped(200, 1))
	meeting(200).expectOut(t, 1, whole)
	meeting(150, 50).expectOut(t, 2, whole)
	meeting(100, 2, 98).expectOut(t, 3, whole)
	meeting(150, 51).expectLimit(t, 1)
	meeting(200, 1).expectLimit(t, 1)
	meeting(100, 100, 1).expectLimit(t, 1)
	meeting(200, 200).expectLimit(t, 1)
	meeting(200, 200, 1).expectLimit(t, 1)
	meeting(200, 200, 200).expectLimit(t, 1)
	// Where two parts meet in one batch, they have a piece less.
	meeting(149, 52).expectOut(t, 2, slices.Concat(whole[:148], pieces(1, 2), whole[149:]))
	meeting(149, 53).expectLimit(t, 1)
	meeting(1, 1, 1, 200).expectOut(t, 4, slices.Concat(pieces(1, 4), whole[1:]))
	meeting(1, 1, 2, 200).expectLimit(t, 1)
}

// P18.2: what ports let in counts as well.
func TestStreamLimitPorts(t *testing.T) {
	with := func(first, second, rate int) work {
		w := meeting(rate)
		w.p.Ports, w.feeds = []int{rate, 3, 4, -rate - 7}, []int{0, first, second, 0}
		return w
	}
	whole := reversed(striped(200, 1))
	with(5, 6, 198).expectOut(t, 3, merged(pieces(5, 3, 6, 4), whole[:198]))
	with(5, 6, 199).expectLimit(t, 1)
	with(1, 5, 198).expectOut(t, 3, merged(pieces(1, 3, 5, 4), whole[:198]))
	with(1, 5, 199).expectLimit(t, 1)
	with(5, 1, 199).expectOut(t, 3, merged(pieces(5, 3, 1, 4), whole[:199]))
	with(5, 1, 200).expectLimit(t, 1)
	with(1, 1, 200).expectOut(t, 3, merged(pieces(1, 7), whole))
}

// merged are lists one behind the other, merged.
func merged(all ...[]api.Piece) []api.Piece {
	var list []api.Piece
	for _, p := range slices.Concat(all...) {
		if last := len(list) - 1; last >= 0 && list[last].Batch == p.Batch {
			list[last].Volume += p.Volume
		} else {
			list = append(list, p)
		}
	}
	return list
}

// P18.2: a stream with too many pieces is an error, even if it is divided into parts that have few.
func TestStreamLimitDivided(t *testing.T) {
	w := meeting(150, 51)
	w.p.Ports = []int{150, 51, -101, -50, -50}
	w.expectLimit(t, 1)
	// All litres of a batch leave by one port.
	w = meeting(150, 150)
	w.p.Ports = []int{150, 150, -150, -150, 0}
	w.expectLimit(t, 1)
	w = meeting(100, 100)
	w.p.Ports = []int{100, 100, -100, 0, -100}
	w.expectTick(t, lists(append(pieces(0, 101), striped(100, 1)[1:]...), append(pieces(0, 101), striped(100, 1)[1:]...)),
		lists(nil, nil, pieces(1, 100), nil, pieces(0, 100)))
}

// P18.3: all that has flowed out of a port may have MaxPieces pieces, and no more.
func TestRunPortLimit(t *testing.T) {
	for _, rate := range []int{1, 2, 4, 5, 8} {
		w := single(striped(200, rate), rate, 5)
		w.expectRun(t, 200, lists(pieces(5, 200*rate)), lists(nil, reversed(w.fills[0])), api.OK)
		w.expectLimit(t, 201)
		w = single(striped(200, rate), -rate, 5)
		w.expectRun(t, 200, lists(pieces(5, 200*rate)), lists(w.fills[0], nil), api.OK)
		w.expectLimit(t, 201)
	}
	// What merges with the last piece needs no other one.
	w := single(striped(200, 4), 4, 0)
	w.expectRun(t, 400, lists(pieces(0, 800)), lists(nil, append(reversed(w.fills[0])[:199], pieces(0, 804)...)), api.OK)
}

// P18.3: the pieces of different ports do not count together, and each one's do.
func TestRunPortLimitEach(t *testing.T) {
	w := work{
		build(3, []pipe{{0, 1, 200}, {2, 1, 200}}, 0, 1, 2),
		lists(striped(200, 1), striped(200, 1)),
		plan([]int{-1, -1}, -1, 2, -1),
		[]int{0, 5, 0},
	}
	w.expectRun(t, 200, lists(pieces(5, 200), pieces(5, 200)), lists(striped(200, 1), nil, striped(200, 1)), api.OK)
	w.expectLimit(t, 201)
	w.fills[0] = pieces(5, 200)
	w.expectRun(t, 200, lists(pieces(5, 200), pieces(5, 200)), lists(pieces(5, 200), nil, striped(200, 1)), api.OK)
	w.expectLimit(t, 201)
	w.fills[0], w.fills[1] = w.fills[1], w.fills[0]
	w.expectLimit(t, 201)
}
