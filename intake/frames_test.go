package intake

import (
	"bytes"
	"math"
	"math/rand"
	"slices"
	"testing"

	"batchline/api"
)

// P10.1: the ends of the range of the window, and nothing else in the intake.
func TestNew(t *testing.T) {
	for window := range 17 {
		if s, e := New(window); e != api.OK || !equal(s, api.Intake{Window: window}) {
			t.Errorf("New(%d) = %v, %d", window, s, e)
		}
	}
	for _, window := range []int{math.MinInt, -17, -2, -1, 17, 18, 64, 1 << 32, math.MaxInt} {
		if s, e := New(window); e != api.ErrRange || !equal(s, api.Intake{}) {
			t.Errorf("New(%d) = %v, %d", window, s, e)
		}
	}
}

// list is some byte strings.
type list = [][]byte

// expectFrames checks what Frames returns for b.
func expectFrames(t *testing.T, b []byte, frames list, tail []byte, damage int) {
	t.Helper()
	gotFrames, gotTail, gotDamage := Frames(b)
	if !slices.EqualFunc(gotFrames, frames, bytes.Equal) || !bytes.Equal(gotTail, tail) || gotDamage != damage {
		t.Errorf("Frames(%v) = %v, %v, %d, want %v, %v, %d", b, gotFrames, gotTail, gotDamage, frames, tail, damage)
	}
}

// P10.1: frames, tails and damage.
func TestFramesExamples(t *testing.T) {
	for _, x := range []struct {
		b      []byte
		frames list
		tail   []byte
		damage int
	}{
		{nil, nil, nil, 0},
		{[]byte{}, nil, nil, 0},
		{[]byte{1, 2, 3}, nil, nil, 3},
		{[]byte{126}, nil, []byte{126}, 0},
		{[]byte{124}, nil, nil, 1},
		{[]byte{126, 124}, list{{126, 124}}, nil, 0},
		{[]byte{124, 126}, nil, []byte{126}, 1},
		{[]byte{126, 1, 124}, list{{126, 1, 124}}, nil, 0},
		{[]byte{126, 1, 124, 126, 2, 124}, list{{126, 1, 124}, {126, 2, 124}}, nil, 0},
		{[]byte{126, 2, 124, 126, 1, 124, 126, 2, 124}, list{{126, 2, 124}, {126, 1, 124}, {126, 2, 124}}, nil, 0},
		{[]byte{9, 126, 1, 124, 8, 7, 126, 2, 124, 6}, list{{126, 1, 124}, {126, 2, 124}}, nil, 4},
		{[]byte{126, 1, 124, 126, 2}, list{{126, 1, 124}}, []byte{126, 2}, 0},
		{[]byte{126, 1, 124, 5, 126, 2}, list{{126, 1, 124}}, []byte{126, 2}, 1},
		// A FrameStart begins anew; what stood ahead of it is damage.
		{[]byte{126, 1, 126, 2, 124}, list{{126, 2, 124}}, nil, 2},
		{[]byte{126, 1, 126, 2}, nil, []byte{126, 2}, 2},
		{[]byte{126, 126, 126, 124}, list{{126, 124}}, nil, 2},
		{[]byte{126, 126, 126}, nil, []byte{126}, 2},
		// A FrameEnd ends only once; behind a frame there is no tail.
		{[]byte{126, 1, 124, 2, 124}, list{{126, 1, 124}}, nil, 2},
		{[]byte{126, 124, 124, 124}, list{{126, 124}}, nil, 2},
		{[]byte{124, 124, 126, 124}, list{{126, 124}}, nil, 2},
		// A FrameEscape is not looked at, even if what follows cannot be escaped.
		{[]byte{126, 125, 124}, list{{126, 125, 124}}, nil, 0},
		{[]byte{126, 125, 126, 124}, list{{126, 124}}, nil, 2},
		{[]byte{126, 125}, nil, []byte{126, 125}, 0},
		{[]byte{125, 125}, nil, nil, 2},
	} {
		expectFrames(t, x.b, x.frames, x.tail, x.damage)
	}
}

// framesByDefinition are what Frames returns: each byte is looked at by itself.
func framesByDefinition(b []byte) (list, []byte, int) {
	var frames list
	var tail []byte
	in := make([]bool, len(b))
	for i, c := range b {
		if c != 126 {
			continue
		}
		to := i + 1
		for to < len(b) && b[to] != 126 && b[to] != 124 {
			to++
		}
		switch {
		case to == len(b):
			tail = b[i:]
		case b[to] == 126:
			continue
		default:
			to++
			frames = append(frames, b[i:to])
		}
		for k := i; k < to; k++ {
			in[k] = true
		}
	}
	damage := 0
	for _, is := range in {
		if !is {
			damage++
		}
	}
	return frames, tail, damage
}

// P10.1: all short streams.
func TestFramesShortStreams(t *testing.T) {
	letters := []byte{1, 124, 125, 126}
	streams := list{nil}
	for from, size := 0, 0; size <= 8 && !t.Failed(); size++ {
		to := len(streams)
		for _, b := range streams[from:to] {
			frames, tail, damage := framesByDefinition(b)
			expectFrames(t, b, frames, tail, damage)
			for _, c := range letters {
				streams = append(streams, append(bytes.Clone(b), c))
			}
		}
		from = to
	}
}

// P10.1: each byte ahead of a frame, in it, behind it, and in a tail.
func TestFramesEachByte(t *testing.T) {
	for i := range 256 {
		c := byte(i)
		streams := list{{c}, {c, 126, 1, 124}, {126, c, 124}, {126, 1, 124, c}, {126, c}, {126, 1, c}, {c, 126}, {126, 1, 124, c, 126, 2, 124}}
		for _, b := range streams {
			frames, tail, damage := framesByDefinition(b)
			expectFrames(t, b, frames, tail, damage)
		}
	}
}

// P10.1: a loop over frames can be left early.
func TestFramesOfLeftEarly(t *testing.T) {
	b := []byte{126, 1, 124, 126, 2, 124, 126, 3, 124}
	var seen list
	for frame := range framesOf(b) {
		if seen = append(seen, frame); len(seen) == 2 {
			break
		}
	}
	if !slices.EqualFunc(seen, list{{126, 1, 124}, {126, 2, 124}}, bytes.Equal) {
		t.Errorf("seen: %v", seen)
	}
}

// P10.1: long streams; no limit holds for frames and tails here.
func TestFramesLongStreams(t *testing.T) {
	const size = 1 << 20
	expectFrames(t, bytes.Repeat([]byte{126}, size), nil, []byte{126}, size-1)
	expectFrames(t, bytes.Repeat([]byte{124}, size), nil, nil, size)
	expectFrames(t, bytes.Repeat([]byte{0}, size), nil, nil, size)
	ones := bytes.Repeat([]byte{1}, size)
	tail := slices.Concat([]byte{126}, ones)
	expectFrames(t, tail, nil, tail, 0)
	frame := slices.Concat(tail, []byte{124})
	expectFrames(t, frame, list{frame}, nil, 0)
	expectFrames(t, slices.Concat(ones, frame, ones, tail), list{frame}, tail, 2*size)
	many := slices.Repeat(list{{126, 1, 124}}, size/4)
	expectFrames(t, slices.Concat(many...), many, nil, 0)
}

// P10.1: any streams, with many marks.
func TestFramesByDefinition(t *testing.T) {
	r := rand.New(rand.NewSource(101))
	for range 20000 {
		b := make([]byte, r.Intn(60))
		for i := range b {
			if b[i] = byte(r.Intn(256)); r.Intn(3) == 0 {
				b[i] = byte(124 + r.Intn(3))
			}
		}
		frames, tail, damage := framesByDefinition(b)
		expectFrames(t, b, frames, tail, damage)
	}
}

// R2: the stream is left as it is, with what lies around it, and no two lists share memory.
func TestFramesMemory(t *testing.T) {
	around := []byte{126, 7, 124, 126, 1, 124, 2, 126, 3, 124, 126, 4, 5, 124, 126}
	before := bytes.Clone(around)
	frames, tail, _ := Frames(around[3:12])
	want, wantTail := list{{126, 1, 124}, {126, 3, 124}}, []byte{126, 4}
	for i, frame := range frames {
		if !bytes.Equal(frame, want[i]) {
			t.Errorf("frame %d became %v", i, frame)
		}
		overwrite(frame)
	}
	if !bytes.Equal(tail, wantTail) {
		t.Errorf("the tail became %v", tail)
	}
	overwrite(tail)
	if !bytes.Equal(around, before) {
		t.Errorf("%v became %v", before, around)
	}
}

// overwrite changes all of b, and its spare capacity.
func overwrite(b []byte) {
	b = b[:cap(b)]
	for i := range b {
		b[i] = 99
	}
}
