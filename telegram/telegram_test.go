package telegram

import (
	"bytes"
	"encoding/binary"
	"hash/crc32"
	"math"
	"math/rand"
	"slices"
	"testing"

	"batchline/api"
)

// example is the telegram of the chapter's example.
func example() api.Telegram {
	return api.Telegram{Station: 1, Epoch: 0, Seq: 2, Time: 3, Kind: 4, Values: []int{-1}}
}

// greatest is a valid telegram with the greatest numbers.
func greatest() api.Telegram {
	return api.Telegram{Station: 255, Epoch: 255, Seq: 1 << 31, Time: 1 << 40, Kind: 63, Values: slices.Repeat([]int{1 << 53}, 16)}
}

// equal reports whether a and b are the same; a nil list is an empty one.
func equal(a, b api.Telegram) bool {
	return a.Station == b.Station && a.Epoch == b.Epoch && a.Seq == b.Seq && a.Time == b.Time && a.Kind == b.Kind && slices.Equal(a.Values, b.Values)
}

// numbersOf are the numbers of a telegram, in the order of its bytes.
func numbersOf(t api.Telegram) []int {
	return append([]int{t.Station, t.Epoch, t.Seq, t.Time, t.Kind, len(t.Values)}, t.Values...)
}

// encoded are the encodings of numbers, as the library writes them.
func encoded(numbers ...int) []byte {
	var b []byte
	for _, n := range numbers {
		b = binary.AppendVarint(b, int64(n))
	}
	return b
}

// framed is the frame of b, byte by byte.
func framed(b []byte) []byte {
	out := []byte{126}
	for _, c := range b {
		switch c {
		case 124, 125, 126:
			out = append(out, 125, c-32)
		default:
			out = append(out, c)
		}
	}
	return append(out, 124)
}

// summed is the frame of a body and its sum, as the library computes it.
func summed(body []byte) []byte {
	return framed(binary.LittleEndian.AppendUint32(bytes.Clone(body), crc32.ChecksumIEEE(body)))
}

// expectValid checks Valid, and that Encode agrees.
func expectValid(t *testing.T, x api.Telegram, want bool) {
	t.Helper()
	if got := Valid(x); got != want {
		t.Errorf("Valid(%v) = %v", x, got)
	}
	b, e := Encode(x)
	if want && (e != api.OK || len(b) == 0) || !want && (e != api.ErrInvalid || len(b) != 0) {
		t.Errorf("Encode(%v) = %v, %d", x, b, e)
	}
}

// expectBytes checks that b are the bytes of x, and that they are read.
func expectBytes(t *testing.T, x api.Telegram, b []byte) {
	t.Helper()
	if got, e := Encode(x); e != api.OK || !bytes.Equal(got, b) {
		t.Errorf("Encode(%v) = %v, %d, want %v", x, got, e, b)
	}
	if got, e := Decode(b); e != api.OK || !equal(got, x) {
		t.Errorf("Decode(%v) = %v, %d, want %v", b, got, e, x)
	}
}

// expectError checks that Decode returns an error for b, and nothing else.
func expectError(t *testing.T, b []byte, want api.Errno) {
	t.Helper()
	if got, e := Decode(b); e != want || !equal(got, api.Telegram{}) {
		t.Errorf("Decode(%v) = %v, %d, want the error %d", b, got, e, want)
	}
}

// span is a number of a telegram, and its range.
type span struct {
	field       func(*api.Telegram) *int
	least, most int
}

// spans are the numbers of example, and their ranges.
func spans() []span {
	return []span{
		{func(x *api.Telegram) *int { return &x.Station }, 0, 255},
		{func(x *api.Telegram) *int { return &x.Epoch }, 0, 255},
		{func(x *api.Telegram) *int { return &x.Seq }, 0, 1 << 31},
		{func(x *api.Telegram) *int { return &x.Time }, 0, 1 << 40},
		{func(x *api.Telegram) *int { return &x.Kind }, 0, 63},
		{func(x *api.Telegram) *int { return &x.Values[0] }, -1 << 53, 1 << 53},
	}
}

// outside are numbers below least and above most.
func outside(least, most int) []int {
	return []int{math.MinInt, math.MinInt + 1, -1 << 60, least - 2, least - 1, most + 1, most + 2, 1 << 60, math.MaxInt}
}

// invalid are telegrams that are not valid, each for one reason only.
func invalid() []api.Telegram {
	var all []api.Telegram
	for _, s := range spans() {
		for _, n := range outside(s.least, s.most) {
			x := example()
			*s.field(&x) = n
			all = append(all, x)
		}
	}
	for i := range 16 {
		for _, n := range outside(-1<<53, 1<<53) {
			x := greatest()
			x.Values[i] = n
			all = append(all, x)
		}
	}
	for _, size := range []int{17, 18, 32, 64, 100, 300} {
		x := example()
		x.Values = make([]int, size)
		all = append(all, x)
	}
	return all
}

// valid are telegrams with numbers at the ends of their ranges, and of all numbers of Values.
func valid() []api.Telegram {
	all := []api.Telegram{{}, {Values: []int{}}, example(), greatest()}
	for _, s := range spans() {
		for _, n := range []int{s.least, s.least + 1, s.most - 1, s.most, 1, 31, 32, 62, 63} {
			x := example()
			*s.field(&x) = n
			all = append(all, x)
		}
	}
	for size := range 17 {
		for _, v := range []int{0, 1, -1, 63, -64, 64, -1 << 53, 1 << 53} {
			x := example()
			x.Values = slices.Repeat([]int{v}, size)
			all = append(all, x)
		}
	}
	return all
}

// P9.1: the ends of all ranges.
func TestValid(t *testing.T) {
	for _, x := range valid() {
		expectValid(t, x, true)
	}
	for _, x := range invalid() {
		expectValid(t, x, false)
	}
}

// P9.1, P9.2: the example of the chapter, and bytes that are escaped.
func TestBytesExamples(t *testing.T) {
	for _, x := range []struct {
		telegram api.Telegram
		body     []byte
	}{
		{example(), []byte{2, 0, 4, 6, 8, 2, 1}},
		{api.Telegram{}, []byte{0, 0, 0, 0, 0, 0}},
		{api.Telegram{Station: 63, Epoch: 62, Seq: 63, Time: 62, Kind: 63}, []byte{126, 124, 126, 124, 126, 0}},
		{api.Telegram{Station: 255, Kind: 1, Values: []int{0, -63, 63, -64, 64}}, []byte{254, 3, 0, 0, 0, 2, 10, 0, 125, 126, 127, 128, 1}},
		{api.Telegram{Epoch: 255, Seq: 1 << 31}, []byte{0, 254, 3, 128, 128, 128, 128, 16, 0, 0, 0}},
		{api.Telegram{Time: 1 << 40, Values: []int{1 << 53}}, []byte{0, 0, 0, 128, 128, 128, 128, 128, 64, 0, 2, 128, 128, 128, 128, 128, 128, 128, 32}},
		{api.Telegram{Values: []int{-1 << 53}}, []byte{0, 0, 0, 0, 0, 2, 255, 255, 255, 255, 255, 255, 255, 31}},
	} {
		expectBytes(t, x.telegram, summed(x.body))
	}
	// The sum of the example is written out, so that its order does not depend on the library.
	got, _ := Encode(example())
	if want := []byte{126, 2, 0, 4, 6, 8, 2, 1, 0xE7, 0x34, 0x3A, 0x91, 124}; !bytes.Equal(got, want) {
		t.Errorf("Encode(%v) = %v, want %v", example(), got, want)
	}
}

// anyTelegram is a valid telegram, with small numbers as often as great ones.
func anyTelegram(r *rand.Rand) api.Telegram {
	upTo := func(most int) int { return r.Intn(most+1) >> r.Intn(54) }
	if r.Intn(2) == 0 { // with many bytes that are escaped
		upTo = func(most int) int { return 62 + r.Intn(2) }
	}
	x := api.Telegram{Station: upTo(255), Epoch: upTo(255), Seq: upTo(1 << 31), Time: upTo(1 << 40), Kind: upTo(63)}
	x.Values = make([]int, r.Intn(17))
	for i := range x.Values {
		x.Values[i] = upTo(1<<53) * (1 - 2*r.Intn(2))
	}
	return x
}

// P9.1, P9.2: the bytes are those of the definition, with at most MaxFrame of them, and they are read.
func TestBytesByDefinition(t *testing.T) {
	all := valid()
	r := rand.New(rand.NewSource(91))
	for range 20000 {
		all = append(all, anyTelegram(r))
	}
	for _, x := range all {
		b := summed(encoded(numbersOf(x)...))
		expectBytes(t, x, b)
		if len(b) > api.MaxFrame {
			t.Errorf("%v has %d bytes", x, len(b))
		}
	}
}

// P9.1: a telegram comes before another one of its station by Epoch, and then by Seq; other numbers do not matter.
func TestBefore(t *testing.T) {
	numbers := []int{math.MinInt, -2, -1, 0, 1, 2, 255, 256, 1 << 31, 1<<31 + 1, math.MaxInt}
	var all []api.Telegram
	for _, station := range numbers[3:6] {
		for _, epoch := range numbers {
			for _, seq := range numbers {
				all = append(all, api.Telegram{Station: station, Epoch: epoch, Seq: seq})
			}
		}
	}
	for i, a := range all {
		for j, b := range all {
			// The telegrams are listed by Station, Epoch and Seq.
			want := a.Station == b.Station && i < j
			if got := Before(a, b); got != want {
				t.Fatalf("Before(%v, %v) = %v", a, b, got)
			}
		}
	}
	for _, station := range numbers {
		a := api.Telegram{Station: station, Epoch: 1, Seq: 9, Time: 9, Kind: 9, Values: []int{9}}
		b := api.Telegram{Station: station, Epoch: 2, Seq: 1, Time: 1, Kind: 1, Values: make([]int, 20)}
		same := api.Telegram{Station: station, Epoch: 1, Seq: 9}
		if !Before(a, b) || Before(b, a) || Before(a, a) || Before(a, same) || Before(same, a) {
			t.Errorf("Before(%v, %v) = %v, and %v the other way", a, b, Before(a, b), Before(b, a))
		}
	}
}

// wrong is bytes that Decode does not read, and the error.
type wrong struct {
	b    []byte
	want api.Errno
}

// ofSize are bytes of a size from 8 on that no telegram has, and the errors if there were no limit.
func ofSize(size int) []wrong {
	inside := make([]byte, size-2)
	return []wrong{
		{make([]byte, size), api.ErrForm},
		{bytes.Repeat([]byte{126}, size), api.ErrForm},
		{slices.Concat([]byte{126}, inside, []byte{1}), api.ErrForm},
		{slices.Concat([]byte{1}, inside, []byte{124}), api.ErrForm},
		{framed(bytes.Repeat([]byte{1}, size-2)), api.ErrSum},
		{framed(append(inside[1:], 1)), api.ErrSum},
	}
}

// P9.2: more bytes than MaxFrame; this comes before all other errors. With MaxFrame bytes, those apply.
func TestDecodeLimit(t *testing.T) {
	for size := 300; size <= 500; size++ {
		for _, x := range ofSize(size) {
			if size > 400 {
				x.want = api.ErrLimit
			}
			expectError(t, x.b, x.want)
		}
	}
	expectError(t, make([]byte, 100000), api.ErrLimit)
	expectError(t, bytes.Repeat([]byte{126}, 1<<20), api.ErrLimit)
	sizes := map[int]bool{}
	for zeros := 300; zeros < 450; zeros++ {
		b := summed(make([]byte, zeros))
		want := api.ErrForm
		if len(b) > 400 {
			want = api.ErrLimit
		}
		expectError(t, b, want)
		sizes[len(b)] = true
	}
	if !sizes[400] || !sizes[401] {
		t.Errorf("sizes tried: %v", sizes)
	}
	// What counts is the bytes of the frame, not those in it.
	expectError(t, framed(bytes.Repeat([]byte{126}, 199)), api.ErrSum)
	expectError(t, framed(bytes.Repeat([]byte{126}, 200)), api.ErrLimit)
}

// P9.2: no frames; this comes before the errors of what would be in them.
func TestDecodeNoFrame(t *testing.T) {
	for _, b := range [][]byte{nil, {}, {126}, {124}, {125}, {0}} {
		expectError(t, b, api.ErrShort)
	}
	for _, b := range [][]byte{
		{0, 0}, {124, 126}, {126, 126}, {124, 124}, {126, 125}, {126, 125, 124}, {126, 125, 1, 124}, {126, 126, 124}, {126, 124, 124},
	} {
		expectError(t, b, api.ErrForm)
	}
	whole, _ := Encode(example())
	for size := range len(whole) {
		want := api.ErrForm
		if size < 2 {
			want = api.ErrShort
		}
		expectError(t, whole[:size], want)
		expectError(t, whole[len(whole)-size:], want)
	}
	for _, c := range []byte{0, 124, 125, 126} {
		expectError(t, append(bytes.Clone(whole), c), api.ErrForm)
		expectError(t, append([]byte{c}, whole...), api.ErrForm)
	}
	expectError(t, slices.Concat(whole, whole), api.ErrForm)
}

// P9.2: fewer than four bytes in the frame, escaped or not; four bytes are a sum.
func TestDecodeShort(t *testing.T) {
	for _, c := range []byte{0, 1, 124, 125, 126, 255} {
		for size := range 4 {
			expectError(t, framed(bytes.Repeat([]byte{c}, size)), api.ErrShort)
		}
	}
	expectError(t, []byte{126, 0, 0, 0, 0, 124}, api.ErrForm) // the sum of nothing, which is no telegram
	for i := range 4 {
		for c := 1; c < 256; c++ {
			b := make([]byte, 4)
			b[i] = byte(c)
			expectError(t, framed(b), api.ErrSum)
		}
	}
}

// inside is what is in the frame of x.
func inside(x api.Telegram) []byte {
	body := encoded(numbersOf(x)...)
	return binary.LittleEndian.AppendUint32(body, crc32.ChecksumIEEE(body))
}

// P9.2: a byte of what is in the frame is another one, or there is one more or less: the sum is wrong.
func TestDecodeSum(t *testing.T) {
	for _, x := range []api.Telegram{{}, example(), greatest(), {Station: 63, Epoch: 62, Seq: 63, Time: 62, Kind: 63, Values: []int{62, 63, -63}}} {
		whole := inside(x)
		for i := range whole {
			for turned := 1; turned < 256; turned++ {
				b := bytes.Clone(whole)
				b[i] ^= byte(turned)
				expectError(t, framed(b), api.ErrSum)
			}
			expectError(t, framed(slices.Delete(bytes.Clone(whole), i, i+1)), api.ErrSum)
			expectError(t, framed(slices.Insert(bytes.Clone(whole), i, 7)), api.ErrSum)
		}
		expectError(t, framed(whole[:len(whole)-4]), api.ErrSum)
	}
	// The sum with its highest byte first.
	body := encoded(numbersOf(example())...)
	expectError(t, framed(binary.BigEndian.AppendUint32(body, crc32.ChecksumIEEE(body))), api.ErrSum)
}

// P9.2: the sum is looked at before the numbers.
func TestDecodeSumBeforeForm(t *testing.T) {
	for _, x := range invalid() {
		if b := framed(append(encoded(numbersOf(x)...), 1, 2, 3, 4)); len(b) <= 400 {
			expectError(t, b, api.ErrSum)
		}
	}
	expectError(t, framed([]byte{128, 128, 1, 2, 3, 4}), api.ErrSum)
}

// P9.2: numbers out of their ranges.
func TestDecodeInvalid(t *testing.T) {
	tried := 0
	for _, x := range invalid() {
		b := summed(encoded(numbersOf(x)...))
		if len(b) <= 400 {
			expectError(t, b, api.ErrForm)
			tried++
		}
	}
	if tried < 150 {
		t.Errorf("only %d telegrams tried", tried)
	}
}

// P9.2: the number of values is not that of the values that follow.
func TestDecodeCount(t *testing.T) {
	for size := range 40 {
		for _, count := range []int{math.MinInt, -1 << 53, -17, -16, -2, -1, 0, 1, 2, 8, 15, 16, 17, 18, 255, 1 << 16, 1 << 53, 1 << 62, math.MaxInt} {
			for _, v := range []int{0, -1, 64} {
				values := slices.Repeat([]int{v}, size)
				b := summed(encoded(append([]int{1, 2, 3, 4, 5, count}, values...)...))
				if count == size && count <= 16 {
					expectBytes(t, api.Telegram{Station: 1, Epoch: 2, Seq: 3, Time: 4, Kind: 5, Values: values}, b)
				} else {
					expectError(t, b, api.ErrForm)
				}
			}
		}
	}
}

// P9.2: what is ahead of the sum ends too early, or goes on.
func TestDecodeEnds(t *testing.T) {
	for _, x := range []api.Telegram{{}, example(), greatest()} {
		body := encoded(numbersOf(x)...)
		for size := range len(body) {
			expectError(t, summed(body[:size]), api.ErrForm)
		}
		for c := range 256 {
			expectError(t, summed(append(bytes.Clone(body), byte(c))), api.ErrForm)
			expectError(t, summed(append([]byte{byte(c) | 128, 128}, body...)), api.ErrForm)
		}
		expectError(t, summed(slices.Concat(body, body)), api.ErrForm)
	}
}

// P9.2: numbers that are not written as wire writes them.
func TestDecodeEncodings(t *testing.T) {
	long := [][]byte{
		{128, 0}, {130, 0}, {128, 128, 0}, {129, 128, 128, 0},
		append(bytes.Repeat([]byte{128}, 9), 0),
		append(bytes.Repeat([]byte{128}, 9), 2),
		append(bytes.Repeat([]byte{255}, 9), 127),
		bytes.Repeat([]byte{128}, 10),
		append(bytes.Repeat([]byte{128}, 10), 0),
		append(bytes.Repeat([]byte{128}, 10), 1),
	}
	numbers := numbersOf(api.Telegram{Values: []int{0, 0}})
	for i := range numbers {
		for _, one := range long {
			expectError(t, summed(slices.Concat(encoded(numbers[:i]...), one, encoded(numbers[i+1:]...))), api.ErrForm)
		}
	}
}

// decodedByDefinition is what Decode returns for at most MaxFrame bytes, as the library reads them.
func decodedByDefinition(b []byte) (api.Telegram, api.Errno) {
	var x api.Telegram
	if len(b) < 2 {
		return x, api.ErrShort
	}
	plain := bytes.NewBuffer(nil)
	for i := 1; i < len(b)-1; i++ {
		c := b[i]
		if c == 125 {
			i++
			c = b[i] ^ 32
		}
		plain.WriteByte(c)
	}
	whole := plain.Bytes()
	if !bytes.Equal(framed(whole), b) {
		return x, api.ErrForm
	}
	if len(whole) < 4 {
		return x, api.ErrShort
	}
	body, end := whole[:len(whole)-4], whole[len(whole)-4:]
	if binary.LittleEndian.Uint32(end) != crc32.ChecksumIEEE(body) {
		return x, api.ErrSum
	}
	var numbers []int
	for rest := body; len(rest) > 0; {
		n, size := binary.Varint(rest)
		if size <= 0 {
			return x, api.ErrForm
		}
		numbers, rest = append(numbers, int(n)), rest[size:]
	}
	if len(numbers) < 6 || !bytes.Equal(encoded(numbers...), body) || numbers[5] != len(numbers)-6 {
		return x, api.ErrForm
	}
	x = api.Telegram{Station: numbers[0], Epoch: numbers[1], Seq: numbers[2], Time: numbers[3], Kind: numbers[4], Values: numbers[6:]}
	if !Valid(x) {
		return api.Telegram{}, api.ErrForm
	}
	return x, api.OK
}

// expectDecoded checks Decode by the definition, and returns its error. What is read has these bytes.
func expectDecoded(t *testing.T, b []byte) api.Errno {
	t.Helper()
	want, e := decodedByDefinition(b)
	if e != api.OK {
		expectError(t, b, e)
		return e
	}
	expectBytes(t, want, b)
	return e
}

// P9.2: all short bodies, with their sums.
func TestDecodeShortBodies(t *testing.T) {
	letters := []byte{0, 1, 2, 4, 128}
	bodies := [][]byte{nil}
	read := 0
	for from, size := 0, 0; size <= 8; size++ {
		to := len(bodies)
		for _, body := range bodies[from:to] {
			if expectDecoded(t, summed(body)) == api.OK {
				read++
			}
			if size < 8 {
				for _, c := range letters {
					bodies = append(bodies, append(bytes.Clone(body), c))
				}
			}
		}
		from = to
		if t.Failed() {
			return
		}
	}
	if read < 1000 {
		t.Errorf("only %d bodies are read", read)
	}
}

// damage changes some bytes of b.
func damage(r *rand.Rand, b []byte) []byte {
	some := []byte{0, 1, 2, 32, 92, 93, 94, 124, 125, 126, 128, 255}
	b = bytes.Clone(b)
	for range r.Intn(3) {
		at := r.Intn(len(b) + 1)
		switch r.Intn(3) {
		case 0:
			b = slices.Insert(b, at, some[r.Intn(len(some))])
		case 1:
			b = slices.Delete(b, min(at, len(b)-1), min(at+1, len(b)))
		case 2:
			b[min(at, len(b)-1)] = byte(r.Intn(256))
		}
	}
	return b
}

// P9.2: bytes of telegrams, with damage ahead of the sum, behind it, and to the frame.
func TestDecodeByDefinition(t *testing.T) {
	r := rand.New(rand.NewSource(92))
	kinds := map[api.Errno]int{}
	for range 40000 {
		body := encoded(numbersOf(anyTelegram(r))...)
		if r.Intn(3) == 0 {
			body = damage(r, body)
		}
		b := summed(body)
		if r.Intn(3) == 0 {
			b = damage(r, b)
		}
		if len(b) > 400 {
			t.Fatalf("%d bytes", len(b))
		}
		kinds[expectDecoded(t, b)]++
		if t.Failed() {
			return
		}
	}
	if kinds[api.OK] < 4000 || kinds[api.ErrForm] < 4000 || kinds[api.ErrSum] < 4000 {
		t.Errorf("of each kind: %v: the test says little", kinds)
	}
}

// R1, R6: any bytes, and any numbers.
func TestAnyArguments(t *testing.T) {
	r := rand.New(rand.NewSource(93))
	for range 50000 {
		b := make([]byte, r.Intn(30))
		r.Read(b)
		Decode(b)
		if e := expectDecoded(t, framed(b)); e == api.OK {
			t.Errorf("%v is read", b)
		}
		expectDecoded(t, summed(b))
	}
	wild := func() int {
		return int(r.Uint64()) >> r.Intn(64)
	}
	for range 50000 {
		x := api.Telegram{Station: wild(), Epoch: wild(), Seq: wild(), Time: wild(), Kind: wild(), Values: make([]int, r.Intn(20))}
		for i := range x.Values {
			x.Values[i] = wild()
		}
		expectValid(t, x, Valid(x))
		if Before(x, x) {
			t.Errorf("Before(%v) itself", x)
		}
	}
}

// R2: values and bytes are left as they are, with what lies around them, and each result is new memory.
func TestMemory(t *testing.T) {
	around := []int{1, 2, 3, 4, 5, 6, 7, 8}
	before := slices.Clone(around)
	x := example()
	x.Values = around[2:5]
	Valid(x)
	Before(x, x)
	first, _ := Encode(x)
	second, _ := Encode(x)
	want := bytes.Clone(second)
	first = first[:cap(first)]
	for i := range first {
		first[i] = 255
	}
	if !slices.Equal(around, before) || !bytes.Equal(second, want) {
		t.Errorf("%v became %v, %v became %v", before, around, want, second)
	}

	whole := slices.Concat([]byte{9, 9}, want, []byte{9, 9, 9})
	kept := bytes.Clone(whole)
	b := whole[2 : 2+len(want)]
	one, _ := Decode(b)
	two, _ := Decode(b)
	all := one.Values[:cap(one.Values)]
	for i := range all {
		all[i] = 77
	}
	if !bytes.Equal(whole, kept) || !equal(two, x) {
		t.Errorf("%v became %v, and %v was read", kept, whole, two)
	}
}
