package piece

import (
	"math/rand"
	"slices"
	"testing"

	"batchline/api"
)

// litresOf are the batches of all litres of f.
func litresOf(f []api.Piece) []int {
	var all []int
	for _, p := range f {
		all = append(all, slices.Repeat([]int{p.Batch}, p.Volume)...)
	}
	return all
}

// piecesOf are the merged pieces that have these litres.
func piecesOf(all []int) []api.Piece {
	var f []api.Piece
	for i, batch := range all {
		if i == 0 || batch != all[i-1] {
			f = append(f, api.Piece{Batch: batch})
		}
		f[len(f)-1].Volume++
	}
	return f
}

// lists are all lists of so many numbers from 0 on, each less than end.
func lists(count, end int) [][]int {
	if count == 0 {
		return [][]int{nil}
	}
	var all [][]int
	for _, list := range lists(count-1, end) {
		for n := range end {
			all = append(all, append(slices.Clone(list), n))
		}
	}
	return all
}

// smallFills are all valid fills of at most most litres of three batches.
func smallFills(most int) [][]api.Piece {
	var all [][]api.Piece
	for count := range most + 1 {
		for _, list := range lists(count, 3) {
			all = append(all, piecesOf(list))
		}
	}
	return all
}

// anyFill is a valid fill of at most so many pieces.
func anyFill(r *rand.Rand, most, volume int) []api.Piece {
	var f []api.Piece
	for range r.Intn(most + 1) {
		f = append(f, api.Piece{Batch: r.Intn(4), Volume: 1 + r.Intn(volume)})
	}
	return piecesOf(litresOf(f))
}

// pushed are the new fill and what leaves f, litre by litre, by the definition.
func pushed(f, in []api.Piece, back bool) ([]api.Piece, []api.Piece) {
	if back {
		all := append(litresOf(f), litresOf(in)...)
		end := len(litresOf(in))
		return piecesOf(all[end:]), piecesOf(all[:end])
	}
	all := append(litresOf(in), litresOf(f)...)
	end := len(litresOf(f))
	return piecesOf(all[:end]), piecesOf(all[end:])
}

// expectPushed checks Push against its definition, and returns what it returned.
func expectPushed(t *testing.T, f, in []api.Piece, back bool) ([]api.Piece, []api.Piece, api.Errno) {
	t.Helper()
	wantFill, wantOut := pushed(f, in, back)
	wantErr := api.OK
	if max(len(wantFill), len(wantOut)) > api.MaxPieces {
		wantFill, wantOut, wantErr = nil, nil, api.ErrLimit
	}
	expectPush(t, f, in, back, wantFill, wantOut, wantErr)
	return Push(f, in, back)
}

// P14.2: all pushes of small fills into each other.
func TestPushSmall(t *testing.T) {
	all := smallFills(4)
	for _, f := range all {
		for _, in := range all {
			expectPushed(t, f, in, false)
			expectPushed(t, f, in, true)
		}
	}
}

// P14.2: pushes of any fills into each other, many of them at the limit of pieces.
func TestPushAny(t *testing.T) {
	r := rand.New(rand.NewSource(1))
	var errors int
	for i := range 3000 {
		most := []int{3, 20, 270}[i%3]
		f, in := anyFill(r, most, 5), anyFill(r, 270, 5)
		if !Valid(f) || !Valid(in) {
			expectPush(t, f, in, i%2 == 0, nil, nil, api.ErrInvalid)
			continue
		}
		if _, _, e := expectPushed(t, f, in, i%2 == 0); e != api.OK {
			errors++
		}
	}
	if errors < 10 {
		t.Errorf("only %d pushes had too many pieces", errors)
	}
}

// P14.1: all short lists are merged, and are valid, as their litres say.
func TestMergeSmall(t *testing.T) {
	for count := range 5 {
		for _, list := range lists(count, 6) {
			var f []api.Piece
			for _, n := range list {
				f = append(f, api.Piece{Batch: n % 2, Volume: n / 2})
			}
			want := piecesOf(litresOf(f))
			if got := Merge(f); !slices.Equal(got, want) {
				t.Errorf("Merge(%v) = %v, want %v", f, got, want)
			}
			valid := slices.Equal(f, want)
			if Valid(f) != valid {
				t.Errorf("%v is valid: %v", f, !valid)
			}
			if volume := Volume(f); valid && volume != len(litresOf(f)) || !valid && volume != 0 {
				t.Errorf("the volume of %v is %d", f, volume)
			}
		}
	}
}

// P14.3: each litre of fills, and the volumes of their batches, by counting litres.
func TestLitres(t *testing.T) {
	r := rand.New(rand.NewSource(2))
	for range 300 {
		f := anyFill(r, 30, 20)
		var counts [5]int
		all := litresOf(f)
		for place, batch := range all {
			if got := At(f, place); got != batch {
				t.Errorf("At(%v, %d) = %d, want %d", f, place, got, batch)
			}
			counts[batch]++
		}
		if got := At(f, len(all)); got != -1 {
			t.Errorf("At(%v, %d) = %d", f, len(all), got)
		}
		for batch, want := range counts {
			if got := Batch(f, batch); got != want {
				t.Errorf("Batch(%v, %d) = %d, want %d", f, batch, got, want)
			}
		}
	}
}

// P14.2, P14.3: nothing gets lost, and a push is undone by a push back.
func TestConservation(t *testing.T) {
	r := rand.New(rand.NewSource(3))
	for i := range 2000 {
		f, in, back := anyFill(r, 40, 1000), anyFill(r, 40, 1000), i%2 == 0
		fill, out, e := Push(f, in, back)
		if e != api.OK || !Valid(fill) || !Valid(out) || Volume(fill) != Volume(f) || Volume(out) != Volume(in) {
			t.Fatalf("Push of %v into %v, back %v = %v, %v, %d", in, f, back, fill, out, e)
		}
		for batch := range 5 {
			if Batch(f, batch)+Batch(in, batch) != Batch(fill, batch)+Batch(out, batch) {
				t.Errorf("Push of %v into %v, back %v has another volume of batch %d", in, f, back, batch)
			}
		}
		expectPush(t, fill, out, !back, f, in, api.OK)
	}
}

// P14.2: pushing in two parts is pushing at once, and pushing as much as there is replaces all of it.
func TestPushParts(t *testing.T) {
	r := rand.New(rand.NewSource(4))
	for range 1000 {
		f, in := anyFill(r, 20, 30), anyFill(r, 20, 30)
		all := litresOf(in)
		at := r.Intn(len(all) + 1)
		first, second := piecesOf(all[:at]), piecesOf(all[at:])

		wantFill, wantOut, _ := Push(f, in, true)
		fill, out, _ := Push(f, first, true)
		expectPush(t, fill, second, true, wantFill, piecesOf(litresOf(wantOut)[len(litresOf(out)):]), api.OK)

		wantFill, wantOut, _ = Push(f, in, false)
		fill, out, _ = Push(f, second, false)
		expectPush(t, fill, first, false, wantFill, piecesOf(litresOf(wantOut)[:len(all)-len(litresOf(out))]), api.OK)

		same := slices.Clone(litresOf(f))
		r.Shuffle(len(same), func(i, j int) { same[i], same[j] = same[j], same[i] })
		if mixed := piecesOf(same); Valid(mixed) {
			expectPush(t, f, mixed, false, mixed, f, api.OK)
			expectPush(t, f, mixed, true, mixed, f, api.OK)
		}
	}
}

// roomy is f with pieces around it in the same memory, and a function that tells whether f and they are as they were.
func roomy(f []api.Piece) ([]api.Piece, func() bool) {
	around := slices.Concat(pieces(77, 7), f, pieces(88, 8, 99, 9))
	before := slices.Clone(around)
	return around[1 : 1+len(f)], func() bool { return slices.Equal(around, before) }
}

// overwrite changes all of f, and its spare capacity.
func overwrite(f []api.Piece) {
	f = f[:cap(f)]
	for i := range f {
		f[i] = api.Piece{Batch: 66, Volume: 6}
	}
}

// expectOwn checks that no two of some results share memory.
func expectOwn(t *testing.T, results ...[]api.Piece) {
	t.Helper()
	for i, f := range results {
		var before [][]api.Piece
		for _, other := range results {
			before = append(before, slices.Clone(other))
		}
		overwrite(f)
		for k, other := range results {
			if k != i && !slices.Equal(other, before[k]) {
				t.Errorf("results share memory: when %v was overwritten, %v became %v", before[i], before[k], other)
			}
		}
	}
}

// R2: arguments are left as they are, with what lies around them, and results are new memory; with an error, too.
func TestMemory(t *testing.T) {
	fills := append(smallFills(3), pieces(1, 60, 2, 40), pieces(1, 60, 3, 1, 1, 500), striped(200, 5), pieces(1, 5, 1, 5), pieces(1, 0, 2, 5, 2, -1))
	for _, x := range fills {
		for _, y := range fills {
			for _, back := range []bool{false, true} {
				f, sameF := roomy(x)
				in, sameIn := roomy(y)
				fill, out, _ := Push(f, in, back)
				again, outAgain, _ := Push(f, in, back)
				expectOwn(t, fill, out, again, outAgain, Merge(f), Merge(f), Merge(in))
				Valid(f)
				Volume(f)
				At(f, 1)
				Batch(f, 1)
				if !sameF() || !sameIn() {
					t.Errorf("an argument of a push of %v into %v became %v, %v", y, x, in, f)
				}
			}
		}
	}
}

// R2: a push of a fill into itself is as one of another fill.
func TestPushItself(t *testing.T) {
	for _, f := range append(smallFills(3), striped(200, 5)) {
		arg, same := roomy(f)
		for _, back := range []bool{false, true} {
			expectPush(t, arg, arg, back, f, f, api.OK)
			fill, out, _ := Push(arg, arg, back)
			expectOwn(t, fill, out)
		}
		if !same() {
			t.Errorf("%v became %v", f, arg)
		}
	}
}
