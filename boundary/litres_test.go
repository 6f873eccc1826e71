package boundary

import (
	"math/rand"
	"slices"
	"testing"

	"batchline/api"
	"batchline/piece"
)

// litresOf are the batches of all litres of f.
func litresOf(f []api.Piece) []int {
	var all []int
	for _, p := range f {
		all = append(all, slices.Repeat([]int{p.Batch}, p.Volume)...)
	}
	return all
}

// anyFill is a valid fill of at most so many pieces.
func anyFill(r *rand.Rand, most, volume int) []api.Piece {
	var f []api.Piece
	for range r.Intn(most + 1) {
		f = append(f, api.Piece{Batch: r.Intn(5), Volume: 1 + r.Intn(volume)})
	}
	return piece.Merge(f)
}

// boundariesOf are those of all litres, by comparing each with the next one.
func boundariesOf(all []int) []api.Boundary {
	var list []api.Boundary
	for at := 1; at < len(all); at++ {
		if left, right := all[at-1], all[at]; left != right {
			list = append(list, api.Boundary{At: at, Left: left, Right: right})
		}
	}
	return list
}

// P15.1, P15.2: the boundaries and the litres ahead of batches, by going through all litres.
func TestLitres(t *testing.T) {
	r := rand.New(rand.NewSource(1))
	for i := range 3000 {
		f := anyFill(r, []int{3, 20, 200}[i%3], []int{3, 50}[i%2])
		all := litresOf(f)
		list := boundariesOf(all)
		expectList(t, f, list, api.OK)
		if len(f) > 0 && len(list) != len(f)-1 {
			t.Errorf("%v has %d boundaries", f, len(list))
		}
		leaving := slices.Clone(all)
		slices.Reverse(leaving)
		for batch := range 6 {
			if !slices.Contains(all, batch) {
				expectAhead(t, f, batch, false, 0, api.ErrUnknown)
				expectAhead(t, f, batch, true, 0, api.ErrUnknown)
				continue
			}
			expectAhead(t, f, batch, false, slices.Index(leaving, batch), api.OK)
			expectAhead(t, f, batch, true, slices.Index(all, batch), api.OK)
		}
	}
}

// P15.1, P15.2: after a push of what is ahead of a batch it is the next one that leaves, and the boundaries that stay have moved by what was pushed.
func TestPushAhead(t *testing.T) {
	r := rand.New(rand.NewSource(2))
	for i := range 2000 {
		f, back := anyFill(r, 40, 1000), i%2 == 0
		for _, p := range f {
			ahead, e := Ahead(f, p.Batch, back)
			fill, _, pushError := piece.Push(f, piece.Merge(pieces(9, ahead)), back)
			if e != api.OK || pushError != api.OK {
				t.Fatalf("a push of what is ahead of %d in %v, back %v: %d, %d, %d", p.Batch, f, back, ahead, e, pushError)
			}
			expectAhead(t, fill, p.Batch, back, 0, api.OK)
			expectList(t, fill, movedBoundaries(f, ahead, back), api.OK)
		}
	}
}

// movedBoundaries are those of the fill f after a push of so many litres of the batch 9.
func movedBoundaries(f []api.Piece, pushed int, back bool) []api.Boundary {
	before, _ := List(f)
	var list []api.Boundary
	volume := piece.Volume(f)
	if !back && pushed > 0 {
		list = append(list, api.Boundary{At: pushed, Left: 9, Right: f[0].Batch})
	}
	for _, b := range before {
		if back {
			b.At -= pushed
		} else {
			b.At += pushed
		}
		if 0 < b.At && b.At < volume {
			list = append(list, b)
		}
	}
	if back && pushed > 0 {
		list = append(list, api.Boundary{At: volume - pushed, Left: f[len(f)-1].Batch, Right: 9})
	}
	return list
}

// R2: a fill is left as it is, with what lies around it, and a list of boundaries is new memory.
func TestMemory(t *testing.T) {
	fills := [][]api.Piece{nil, pieces(1, 60), pieces(1, 60, 2, 40, 1, 5), striped(200, 5), pieces(1, 5, 1, 5), pieces(1, 5, 2, -1)}
	for _, f := range fills {
		around := slices.Concat(pieces(77, 7), f, pieces(88, 8, 99, 9))
		before := slices.Clone(around)
		arg := around[1 : 1+len(f)]
		first, _ := List(arg)
		second, _ := List(arg)
		want := slices.Clone(second)
		first = first[:cap(first)]
		for i := range first {
			first[i] = api.Boundary{At: 66, Left: 66, Right: 66}
		}
		if !slices.Equal(second, want) {
			t.Errorf("two lists of boundaries of %v share memory", f)
		}
		Ahead(arg, 1, false)
		Ahead(arg, 1, true)
		Ahead(arg, 500, false)
		if !slices.Equal(around, before) {
			t.Errorf("%v became %v", f, arg)
		}
	}
}
