package wire

import (
	"bytes"
	"encoding/binary"
	"hash/crc32"
	"math"
	"math/big"
	"math/rand"
	"testing"

	"batchline/api"
)

// edges returns numbers whose encodings are the first and the last ones of each length, with their neighbours.
func edges() []int {
	numbers := []int{0, math.MinInt, math.MinInt + 1, math.MaxInt, math.MaxInt - 1}
	for bits := 6; bits < 63; bits += 7 {
		n := 1 << bits
		numbers = append(numbers, n-1, n, n+1, -n+1, -n, -n-1)
	}
	return numbers
}

// P2.1: the examples of the chapter, and the ends of the range.
func TestEncodingExamples(t *testing.T) {
	for _, x := range []struct {
		n    int
		want []byte
	}{
		{0, []byte{0}},
		{-1, []byte{1}},
		{1, []byte{2}},
		{-2, []byte{3}},
		{63, []byte{126}},
		{-64, []byte{127}},
		{64, []byte{128, 1}},
		{-65, []byte{129, 1}},
		{8191, []byte{254, 127}},
		{-8192, []byte{255, 127}},
		{8192, []byte{128, 128, 1}},
		{math.MaxInt, []byte{254, 255, 255, 255, 255, 255, 255, 255, 255, 1}},
		{math.MinInt, []byte{255, 255, 255, 255, 255, 255, 255, 255, 255, 1}},
	} {
		if got := PutInt(nil, x.n); !bytes.Equal(got, x.want) {
			t.Errorf("PutInt(nil, %d) = %v, want %v", x.n, got, x.want)
		}
		if n, at, e := Int(x.want, 0); n != x.n || at != len(x.want) || e != api.OK {
			t.Errorf("Int(%v, 0) = %d, %d, %d, want %d, %d", x.want, n, at, e, x.n, len(x.want))
		}
	}
}

// expectEncoding checks that n is written behind other bytes as the library writes it, and read from between other bytes.
func expectEncoding(t *testing.T, n int) {
	t.Helper()
	before := []byte{128, 0, 255}
	want := binary.AppendVarint(bytes.Clone(before), int64(n))
	got := PutInt(before, n)
	if !bytes.Equal(got, want) {
		t.Errorf("PutInt(%v, %d) = %v, want %v", before, n, got, want)
	}
	for _, behind := range [][]byte{nil, {0}, {255}, bytes.Repeat([]byte{128}, 20)} {
		whole := append(bytes.Clone(want), behind...)
		if m, at, e := Int(whole, len(before)); m != n || at != len(want) || e != api.OK {
			t.Errorf("Int(%v, %d) = %d, %d, %d, want %d, %d", whole, len(before), m, at, e, n, len(want))
		}
	}
}

// P2.1: what PutInt has written is what the definition says, and Int reads it.
func TestEncodingsAreRead(t *testing.T) {
	for n := -20000; n <= 20000; n++ {
		expectEncoding(t, n)
	}
	for _, n := range edges() {
		expectEncoding(t, n)
	}
	r := rand.New(rand.NewSource(1))
	for range 20000 {
		expectEncoding(t, int(r.Uint64())>>r.Intn(64))
	}
}

// P2.1: several numbers are read one behind the other.
func TestEncodingsInARow(t *testing.T) {
	var b []byte
	for _, n := range edges() {
		b = PutInt(b, n)
	}
	at := 0
	for _, n := range edges() {
		m, next, e := Int(b, at)
		if m != n || e != api.OK {
			t.Fatalf("Int at %d = %d, %d, want %d", at, m, e, n)
		}
		at = next
	}
	if at != len(b) {
		t.Errorf("the last number ends at %d, want %d", at, len(b))
	}
}

// P2.1: an end of b within each encoding.
func TestEncodingsCutOff(t *testing.T) {
	for _, n := range edges() {
		whole := PutInt([]byte{9}, n)
		for end := 1; end < len(whole); end++ {
			if m, at, e := Int(whole[:end], 1); m != 0 || at != 0 || e != api.ErrShort {
				t.Errorf("Int(%v, 1) = %d, %d, %d, want ErrShort", whole[:end], m, at, e)
			}
		}
	}
}

// P2.1: the errors of Int, and numbers at the border to them.
func TestIntErrors(t *testing.T) {
	nine := bytes.Repeat([]byte{128}, 9)
	with := func(c ...byte) []byte { return append(bytes.Clone(nine), c...) }
	for _, x := range []struct {
		b    []byte
		at   int
		want api.Errno
	}{
		{nil, -1, api.ErrRange},
		{nil, 1, api.ErrRange},
		{[]byte{0}, -1, api.ErrRange},
		{[]byte{0}, 2, api.ErrRange},
		{[]byte{0}, math.MinInt, api.ErrRange},
		{[]byte{0}, math.MaxInt, api.ErrRange},
		{[]byte{128, 0}, -1, api.ErrRange},
		{make([]byte, 3, 9), 4, api.ErrRange},
		{nil, 0, api.ErrShort},
		{[]byte{}, 0, api.ErrShort},
		{[]byte{0}, 1, api.ErrShort},
		{make([]byte, 3, 9), 3, api.ErrShort},
		{[]byte{128}, 0, api.ErrShort},
		{[]byte{255, 255}, 0, api.ErrShort},
		{[]byte{128, 0, 128}, 2, api.ErrShort},
		{nine, 0, api.ErrShort},
		{with(128), 1, api.ErrShort},
		{with(128), 0, api.ErrForm},
		{with(129), 0, api.ErrForm},
		{with(128, 0), 0, api.ErrForm},
		{with(128, 1), 0, api.ErrForm},
		{with(128, 128), 0, api.ErrForm},
		{bytes.Repeat([]byte{255}, 30), 7, api.ErrForm},
		{with(0), 0, api.ErrForm},
		{with(2), 0, api.ErrForm},
		{with(3), 0, api.ErrForm},
		{with(127), 0, api.ErrForm},
		{[]byte{128, 0}, 0, api.ErrForm},
		{[]byte{255, 0}, 0, api.ErrForm},
		{[]byte{5, 129, 128, 0}, 1, api.ErrForm},
		{append(bytes.Clone(nine[:8]), 0), 0, api.ErrForm},
	} {
		if n, at, e := Int(x.b, x.at); n != 0 || at != 0 || e != x.want {
			t.Errorf("Int(%v, %d) = %d, %d, %d, want the error %d", x.b, x.at, n, at, e, x.want)
		}
	}
	if n, at, e := Int(with(1), 0); n != 1<<62 || at != 10 || e != api.OK {
		t.Errorf("Int(%v, 0) = %d, %d, %d, want 1 << 62", with(1), n, at, e)
	}
}

// intByHand reads the number at the beginning of b as the chapter says, with numbers of any size.
func intByHand(b []byte) (int, int, api.Errno) {
	size := 1
	for size <= len(b) && b[size-1] >= 128 {
		size++
	}
	if size > len(b) && len(b) < 10 {
		return 0, 0, api.ErrShort
	}
	if size > 10 {
		return 0, 0, api.ErrForm
	}
	folded := new(big.Int)
	for i := size - 1; i >= 0; i-- {
		folded.Lsh(folded, 7)
		folded.Add(folded, big.NewInt(int64(b[i]%128)))
	}
	if folded.BitLen() > 64 || size > 1 && b[size-1] == 0 {
		return 0, 0, api.ErrForm
	}
	odd := folded.Bit(0) == 1
	folded.Rsh(folded, 1)
	if odd {
		folded.Not(folded)
	}
	return int(folded.Int64()), size, api.OK
}

// P2.1: Int reads all kinds of bytes as the chapter says.
func TestIntByHand(t *testing.T) {
	r := rand.New(rand.NewSource(2))
	last := []byte{0, 1, 2, 63, 64, 127, 128, 129, 255}
	for range 200000 {
		b := make([]byte, r.Intn(14))
		for i := range b {
			b[i] = byte(r.Intn(256)) | 128
		}
		if len(b) > 0 {
			b[len(b)-1] = last[r.Intn(len(last))]
		}
		n, at, e := Int(b, 0)
		if m, end, want := intByHand(b); n != m || at != end || e != want {
			t.Fatalf("Int(%v, 0) = %d, %d, %d, want %d, %d, %d", b, n, at, e, m, end, want)
		}
	}
}

// sumByHand computes the checksum bit by bit, as the chapter says.
func sumByHand(b []byte) uint32 {
	register := uint32(0xFFFFFFFF)
	for _, c := range b {
		register ^= uint32(c)
		for range 8 {
			out := register & 1
			register >>= 1
			if out == 1 {
				register ^= 0xEDB88320
			}
		}
	}
	return ^register
}

// P2.2: the example of the chapter, no bytes, and single ones.
func TestSumExamples(t *testing.T) {
	for _, x := range []struct {
		text string
		want uint32
	}{
		{"123456789", 0xCBF43926},
		{"", 0},
		{"\x00", 0xD202EF8D},
		{"\xff", 0xFF000000},
		{"\xff\xff\xff\xff", 0xFFFFFFFF},
		{"a", 0xE8B7BE43},
	} {
		if got := Sum([]byte(x.text)); got != x.want {
			t.Errorf("Sum(%q) = %#x, want %#x", x.text, got, x.want)
		}
	}
	if got := Sum(nil); got != 0 {
		t.Errorf("Sum(nil) = %#x, want 0", got)
	}
}

// P2.2: each byte, and bytes of many lengths.
func TestSumByHand(t *testing.T) {
	for c := range 256 {
		b := []byte{byte(c)}
		if got, want := Sum(b), sumByHand(b); got != want {
			t.Errorf("Sum(%v) = %#x, want %#x", b, got, want)
		}
	}
	r := rand.New(rand.NewSource(3))
	for size := range 600 {
		b := make([]byte, size)
		r.Read(b)
		got := Sum(b)
		if want := sumByHand(b); got != want || got != crc32.ChecksumIEEE(b) {
			t.Errorf("Sum of %d bytes = %#x, want %#x", size, got, want)
		}
	}
}

// P2.3: the examples of the chapter, no bytes, and each mark.
func TestFrameExamples(t *testing.T) {
	for _, x := range []struct{ b, frame []byte }{
		{[]byte{1, 126, 125}, []byte{126, 1, 125, 94, 125, 93, 124}},
		{nil, []byte{126, 124}},
		{[]byte{0}, []byte{126, 0, 124}},
		{[]byte{126}, []byte{126, 125, 94, 124}},
		{[]byte{124}, []byte{126, 125, 92, 124}},
		{[]byte{125}, []byte{126, 125, 93, 124}},
		{[]byte{94, 92, 93}, []byte{126, 94, 92, 93, 124}},
		{[]byte{126, 124}, []byte{126, 125, 94, 125, 92, 124}},
		{[]byte{125, 94}, []byte{126, 125, 93, 94, 124}},
		{[]byte{123, 127, 255, 32}, []byte{126, 123, 127, 255, 32, 124}},
	} {
		if got := Stuff(x.b); !bytes.Equal(got, x.frame) {
			t.Errorf("Stuff(%v) = %v, want %v", x.b, got, x.frame)
		}
		if got, e := Unstuff(x.frame); !bytes.Equal(got, x.b) || e != api.OK {
			t.Errorf("Unstuff(%v) = %v, %d, want %v", x.frame, got, e, x.b)
		}
	}
}

// P2.3: frames of bytes of all kinds are read, and have FrameStart and FrameEnd only at their ends.
func TestFramesAreRead(t *testing.T) {
	r := rand.New(rand.NewSource(4))
	for range 20000 {
		b := make([]byte, r.Intn(40))
		for i := range b {
			b[i] = byte(r.Intn(256))
			if r.Intn(2) == 0 {
				b[i] = byte(90 + r.Intn(40))
			}
		}
		frame := Stuff(b)
		inner := frame[1 : len(frame)-1]
		if frame[0] != api.FrameStart || frame[len(frame)-1] != api.FrameEnd || bytes.ContainsAny(inner, "\x7e\x7c") {
			t.Fatalf("Stuff(%v) = %v", b, frame)
		}
		if got, e := Unstuff(frame); !bytes.Equal(got, b) || e != api.OK {
			t.Fatalf("Unstuff(Stuff(%v)) = %v, %d", b, got, e)
		}
	}
}

// texts returns all texts of at most size bytes of letters.
func texts(letters string, size int) []string {
	all := []string{""}
	from := 0
	for range size {
		to := len(all)
		for _, text := range all[from:to] {
			for i := range len(letters) {
				all = append(all, text+letters[i:i+1])
			}
		}
		from = to
	}
	return all
}

// P2.3: of all short texts, Unstuff reads those that are frames, and no others.
func TestOnlyFramesAreRead(t *testing.T) {
	letters := string([]byte{126, 124, 125, 94, 92, 93, 1})
	of := map[string]string{}
	for _, text := range texts(letters, 4) {
		of[string(Stuff([]byte(text)))] = text
	}
	for _, frame := range texts(letters, 6) {
		got, e := Unstuff([]byte(frame))
		text, ok := of[frame]
		want := api.OK
		if !ok {
			want = api.ErrForm
		}
		if len(frame) < 2 {
			want = api.ErrShort
		}
		if string(got) != text || e != want {
			t.Fatalf("Unstuff(%v) = %v, %d, want %v, %d", []byte(frame), got, e, []byte(text), want)
		}
	}
}

// P2.3: after FrameEscape stand only the three bytes that are escaped.
func TestOnlyMarksAreEscaped(t *testing.T) {
	for c := range 256 {
		frame := []byte{126, 125, byte(c), 124}
		got, e := Unstuff(frame)
		if c == 94 || c == 92 || c == 93 {
			if !bytes.Equal(got, []byte{byte(c ^ 32)}) || e != api.OK {
				t.Errorf("Unstuff(%v) = %v, %d", frame, got, e)
			}
		} else if len(got) != 0 || e != api.ErrForm {
			t.Errorf("Unstuff(%v) = %v, %d, want ErrForm", frame, got, e)
		}
	}
}

// P2.3: the errors of Unstuff.
func TestUnstuffErrors(t *testing.T) {
	for _, x := range []struct {
		b    []byte
		want api.Errno
	}{
		{nil, api.ErrShort},
		{[]byte{}, api.ErrShort},
		{[]byte{126}, api.ErrShort},
		{[]byte{124}, api.ErrShort},
		{[]byte{125}, api.ErrShort},
		{[]byte{1}, api.ErrShort},
		{[]byte{124, 126}, api.ErrForm},
		{[]byte{126, 126}, api.ErrForm},
		{[]byte{124, 124}, api.ErrForm},
		{[]byte{126, 1}, api.ErrForm},
		{[]byte{1, 124}, api.ErrForm},
		{[]byte{1, 126, 2, 124}, api.ErrForm},
		{[]byte{126, 2, 124, 1}, api.ErrForm},
		{[]byte{126, 125, 1, 124}, api.ErrForm},
		{[]byte{126, 125, 124}, api.ErrForm},
		{[]byte{126, 125, 125, 93, 124}, api.ErrForm},
		{[]byte{126, 125, 94}, api.ErrForm},
		{[]byte{126, 125, 92}, api.ErrForm},
		{[]byte{126, 1, 125, 124}, api.ErrForm},
		{[]byte{126, 126, 124}, api.ErrForm},
		{[]byte{126, 124, 124}, api.ErrForm},
		{[]byte{126, 124, 126, 124}, api.ErrForm},
	} {
		if got, e := Unstuff(x.b); len(got) != 0 || e != x.want {
			t.Errorf("Unstuff(%v) = %v, %d, want the error %d", x.b, got, e, x.want)
		}
	}
}

// R2: arguments stay as they are, with their spare capacity, and each result is new memory.
func TestMemory(t *testing.T) {
	putInt := func(b []byte) []byte { return PutInt(b, 77) }
	read := func(b []byte) []byte { out, _ := Unstuff(b); return out }
	sum := func(b []byte) []byte { Sum(b); return nil }
	number := func(b []byte) []byte { Int(b, 1); return nil }
	for i, call := range []func([]byte) []byte{putInt, Stuff, read, sum, number} {
		whole := []byte{9, 126, 1, 125, 94, 2, 124, 9, 9, 9, 9, 9, 9, 9, 9, 9, 9, 9, 9, 9}
		before := bytes.Clone(whole)
		first, second := call(whole[1:7]), call(whole[1:7])
		want := bytes.Clone(second)
		first = first[:cap(first)]
		for j := range first {
			first[j] = 255
		}
		if !bytes.Equal(whole, before) || !bytes.Equal(second, want) {
			t.Errorf("call %d: %v, %v, want %v, %v", i, whole, second, before, want)
		}
	}
	// Even where nothing is escaped, and where nothing is in the frame.
	for _, b := range [][]byte{{126, 1, 2, 124}, {126, 124}} {
		before := bytes.Clone(b)
		out, _ := Unstuff(b)
		out = out[:cap(out)]
		for j := range out {
			out[j] = 255
		}
		if !bytes.Equal(b, before) {
			t.Errorf("the frame %v became %v", before, b)
		}
	}
}
