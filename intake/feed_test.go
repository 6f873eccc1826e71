package intake

import (
	"bytes"
	"hash/crc32"
	"math/rand"
	"slices"
	"testing"

	"batchline/api"
	"batchline/telegram"
	"batchline/wire"
)

// bytesOf are the bytes of x.
func bytesOf(x api.Telegram) []byte {
	b, e := telegram.Encode(x)
	if e != api.OK {
		panic("a telegram of the tests is not valid")
	}
	return b
}

// streamOf are the bytes of telegrams, one behind the other.
func streamOf(list ...api.Telegram) []byte {
	var b []byte
	for _, x := range list {
		b = append(b, bytesOf(x)...)
	}
	return b
}

// expectFeed checks what Feed returns.
func expectFeed(t *testing.T, s api.Intake, b []byte, want api.Intake, given []api.Telegram) {
	t.Helper()
	got, gotGiven, e := Feed(s, b)
	if e != api.OK || !equal(got, want) || !equalTelegrams(gotGiven, given) {
		t.Errorf("Feed(%v, %v) = %v, %v, %d, want %v, %v", s, b, got, gotGiven, e, want, given)
	}
}

// withTail is s with another Tail.
func withTail(s api.Intake, tail ...byte) api.Intake {
	s.Tail = tail
	return s
}

// P10.3: telegrams in a stream are accepted in order.
func TestFeedExamples(t *testing.T) {
	empty := intakeOf(2)
	expectFeed(t, empty, nil, empty, nil)
	expectFeed(t, empty, []byte{1, 2, 124}, empty, nil)
	expectFeed(t, empty, bytesOf(tel(7, 0, 0)), intakeOf(2, waiting(7, 0, 1)), tels(7, 0, 0))
	expectFeed(t, empty, streamOf(tels(7, 0, 0, 2, 1, 1, 3)...), intakeOf(2, waiting(7, 0, 4)), tels(7, 0, 0, 1, 2, 3))
	expectFeed(t, empty, streamOf(tels(7, 0, 1, 2)...), intakeOf(2, waiting(7, 0, 0, 1, 2)), nil)
	expectFeed(t, empty, streamOf(tels(7, 0, 1, 2, 3)...), intakeOf(2, waiting(7, 0, 4)), tels(7, 0, 1, 2, 3))
	expectFeed(t, empty, streamOf(tels(7, 0, 1, 2, 3, 0)...), intakeOf(2, waiting(7, 0, 4)), tels(7, 0, 1, 2, 3))
	// What is given out stays in the order in which it was, over all stations.
	expectFeed(t, empty, streamOf(tel(9, 0, 1), tel(7, 0, 0), tel(9, 0, 0), tel(8, 3, 0), tel(7, 0, 1), tel(9, 1, 1)),
		intakeOf(2, waiting(7, 0, 2), waiting(8, 3, 1), waiting(9, 1, 0, 1)),
		[]api.Telegram{tel(7, 0, 0), tel(9, 0, 0), tel(9, 0, 1), tel(8, 3, 0), tel(7, 0, 1)})
}

// P10.3: a telegram in two parts, wherever it is cut, behind another one and ahead of the next.
func TestFeedTwoParts(t *testing.T) {
	for _, x := range []api.Telegram{tel(5, 0, 1), tel(62, 63, 1), {Station: 63, Epoch: 62, Seq: 1, Values: []int{62, 63, -63}}} {
		first := x
		first.Seq = 0
		whole := slices.Concat(bytesOf(first), bytesOf(x))
		for cut := range len(whole) + 1 {
			s, given, e := Feed(intakeOf(2), whole[:cut])
			_, tail, _ := framesByDefinition(whole[:cut])
			if e != api.OK || !bytes.Equal(s.Tail, tail) {
				t.Errorf("%v, cut at %d: the tail is %v, %d", whole, cut, s.Tail, e)
			}
			s, more, e := Feed(s, whole[cut:])
			want := intakeOf(2, api.Waiting{Station: x.Station, Epoch: x.Epoch, Next: 2})
			if e != api.OK || !equal(s, want) || !equalTelegrams(append(given, more...), []api.Telegram{first, x}) {
				t.Errorf("%v, cut at %d: %v, %v and %v, %d", whole, cut, s, given, more, e)
			}
		}
	}
}

// P10.3: the Tail is part of the stream, and what stands in b can end it, or begin anew.
func TestFeedTail(t *testing.T) {
	b := bytesOf(tel(5, 0, 0))
	s := withTail(intakeOf(2), b[:4]...)
	done := intakeOf(2, waiting(5, 0, 1))
	expectFeed(t, s, nil, s, nil)
	expectFeed(t, s, b[4:6], withTail(s, b[:6]...), nil)
	expectFeed(t, s, b[4:], done, tels(5, 0, 0))
	expectFeed(t, s, b, done, tels(5, 0, 0))
	expectFeed(t, s, append(bytes.Clone(b[4:]), 126, 8), withTail(done, 126, 8), tels(5, 0, 0))
	expectFeed(t, s, append(bytes.Clone(b[4:]), 8, 8), done, tels(5, 0, 0))
	expectFeed(t, s, []byte{124}, intakeOf(2), nil)
	expectFeed(t, s, []byte{124, 126}, withTail(s, 126), nil)
	expectFeed(t, s, []byte{126}, withTail(s, 126), nil)
	expectFeed(t, s, []byte{126, 125}, withTail(s, 126, 125), nil)
	expectFeed(t, withTail(s, 126), b[1:], done, tels(5, 0, 0))
	expectFeed(t, intakeOf(2), b[1:], intakeOf(2), nil)
	// A FrameEscape at the end of a part.
	escaped := bytesOf(tel(62, 0, 0))
	at := bytes.IndexByte(escaped, 125) + 1
	expectFeed(t, withTail(s, escaped[:at]...), escaped[at:], intakeOf(2, waiting(62, 0, 1)), tels(62, 0, 0))
}

// summed is the frame of a body and its sum, as the library computes it.
func summed(body []byte) []byte {
	s := crc32.ChecksumIEEE(body)
	return wire.Stuff(append(bytes.Clone(body), byte(s), byte(s>>8), byte(s>>16), byte(s>>24)))
}

// badFrames are frames that telegram.Decode does not accept.
func badFrames() [][]byte {
	wrong := bytesOf(tel(5, 0, 1))
	wrong[2] ^= 1
	return [][]byte{
		{126, 124}, {126, 1, 2, 124}, {126, 125, 124}, {126, 0, 0, 0, 0, 124}, {126, 0, 0, 0, 0, 0, 0, 1, 2, 3, 4, 124}, wrong,
		summed([]byte{0, 0, 0, 0, 0}), summed([]byte{0, 0, 0, 0, 0, 0, 0}), summed([]byte{0, 0, 0, 0, 0, 2}), summed([]byte{1, 0, 0, 0, 0, 0}), summed([]byte{128, 4, 0, 0, 0, 0, 0}),
		summed(make([]byte, 394)), summed(make([]byte, 395)), summed(make([]byte, 5000)),
	}
}

// P10.3: frames that are no telegrams, and bytes outside of frames, are left out; those around them are accepted.
func TestFeedDamage(t *testing.T) {
	one, two := bytesOf(tel(5, 0, 0)), bytesOf(tel(5, 0, 1))
	done := intakeOf(2, waiting(5, 0, 2))
	lost := [][]byte{nil, {124}, {125}, {0, 1, 2}, {126}, {126, 1, 2}, {124, 126, 125}, one[:6], one[1:], two[:len(two)-1], two[1:], make([]byte, 10000)}
	for _, bad := range append(lost, badFrames()...) {
		expectFeed(t, intakeOf(2), slices.Concat(bad, one, two), done, tels(5, 0, 0, 1))
		expectFeed(t, intakeOf(2), slices.Concat(one, bad, two), done, tels(5, 0, 0, 1))
		expectFeed(t, intakeOf(2), slices.Concat(one, two, bad, []byte{124}), done, tels(5, 0, 0, 1))
	}
	for _, bad := range badFrames() {
		expectFeed(t, intakeOf(2), bad, intakeOf(2), nil)
	}
}

// P10.3: a Tail of more than MaxFrame bytes is dropped, in one part or in several.
func TestFeedLongTail(t *testing.T) {
	bare := bytes.Repeat([]byte{1}, 1000)
	bare[0] = 126
	one := bytesOf(tel(5, 0, 0))
	done := intakeOf(2, waiting(5, 0, 1))
	for size := 1; size <= len(bare); size++ {
		want := withTail(intakeOf(2), bare[:size]...)
		if size > 400 {
			want.Tail = nil
		}
		expectFeed(t, intakeOf(2), bare[:size], want, nil)
		expectFeed(t, intakeOf(2), slices.Concat(one, bare[:size]), withTail(done, want.Tail...), tels(5, 0, 0))
		first := min(size, 400)
		expectFeed(t, withTail(intakeOf(2), bare[:first]...), bare[first:size], want, nil)
	}
	full := withTail(intakeOf(2), bare[:400]...)
	expectFeed(t, full, nil, full, nil)
	expectFeed(t, full, []byte{1}, intakeOf(2), nil)
	expectFeed(t, full, []byte{126}, withTail(full, 126), nil)
	expectFeed(t, full, []byte{124}, intakeOf(2), nil)
	expectFeed(t, full, one, done, tels(5, 0, 0))
	expectFeed(t, full, slices.Concat(bare, one), done, tels(5, 0, 0))
	// What follows a dropped Tail is no part of a frame, until a frame begins.
	expectFeed(t, intakeOf(2), slices.Concat([]byte{1, 1, 124}, one), done, tels(5, 0, 0))
}

// long is a telegram with many bytes, some of them escaped.
func long() api.Telegram {
	return api.Telegram{Station: 255, Epoch: 255, Time: 1 << 40, Kind: 62, Values: slices.Repeat([]int{-1 << 53, 1<<53 - 66}, 8)}
}

// P10.3: a long telegram goes through a Tail, a byte at a time.
func TestFeedByteByByte(t *testing.T) {
	x := long()
	list := []api.Telegram{x, tel(62, 63, 0), tel(5, 0, 1), tel(5, 0, 0)}
	s := intakeOf(2)
	var all []api.Telegram
	for _, c := range streamOf(list...) {
		next, given, e := Feed(s, []byte{c})
		if e != api.OK {
			t.Fatalf("Feed(%v, %d): %d", s, c, e)
		}
		s, all = next, append(all, given...)
	}
	want := intakeOf(2, waiting(5, 0, 2), waiting(62, 63, 1), waiting(255, 255, 1))
	if !equal(s, want) || !equalTelegrams(all, []api.Telegram{x, tel(62, 63, 0), tel(5, 0, 0), tel(5, 0, 1)}) {
		t.Errorf("%v, %v", s, all)
	}
}

// P10.3: telegrams of stations for which there is no room are left out; the others are accepted, and it is no error.
func TestFeedLimit(t *testing.T) {
	full := intakeOf(2, many(64, 3)...)
	want := intakeOf(2, many(64, 3)...)
	want.Stations[1] = waiting(3, 1, 6, 7)
	want.Stations[63] = waiting(189, 2, 1)
	expectFeed(t, full, streamOf(tel(1, 0, 0), tel(3, 1, 5), tel(200, 0, 0), tel(189, 2, 0), tel(255, 9, 9)), want, []api.Telegram{tel(3, 1, 5), tel(189, 1, 7), tel(189, 2, 0)})
	var list []api.Telegram
	for station := range 256 {
		list = append(list, tel(255-station, 0, 0))
	}
	expectFeed(t, intakeOf(0), streamOf(list...), intakeOf(0, firsts(192, 64)...), list[:64])
}

// firsts are entries of stations from first on that have given out one telegram each.
func firsts(first, count int) []api.Waiting {
	var all []api.Waiting
	for station := range count {
		all = append(all, waiting(first+station, 0, 1))
	}
	return all
}

// anyStream is bytes of telegrams, some of them damaged, with other bytes between them.
func anyStream(r *rand.Rand) []byte {
	var b []byte
	for i := range r.Intn(40) {
		one := bytesOf(tel(61+r.Intn(2), r.Intn(8)/7, i/3+r.Intn(3)))
		switch r.Intn(20) {
		case 0:
			one[r.Intn(len(one))] ^= byte(1 << r.Intn(8))
		case 1:
			one = one[:r.Intn(len(one))]
		case 2:
			one = one[r.Intn(len(one)):]
		case 3:
			one = bytes.Repeat([]byte{byte(124 + r.Intn(4))}, r.Intn(3))
		case 4:
			one = append([]byte{126}, make([]byte, r.Intn(500))...)
		}
		b = append(b, one...)
	}
	return b
}

// feedByDefinition is what Feed returns, by the definitions of the other layers and of Accept.
func feedByDefinition(s api.Intake, b []byte) (api.Intake, []api.Telegram) {
	frames, tail, _ := framesByDefinition(slices.Concat(s.Tail, b))
	var all []api.Telegram
	for _, frame := range frames {
		x, e := telegram.Decode(frame)
		if e != api.OK {
			continue
		}
		if next, given, e := Accept(s, x); e == api.OK {
			s, all = next, append(all, given...)
		}
	}
	if len(tail) > 400 {
		tail = nil
	}
	return withTail(s, tail...), all
}

// P10.3: any streams in any parts: the telegrams are the same, and what is fed bit by bit is by the definition.
func TestFeedByDefinition(t *testing.T) {
	r := rand.New(rand.NewSource(105))
	given := 0
	for range 3000 {
		b := anyStream(r)
		start, _ := New(r.Intn(17))
		end, all := feedByDefinition(start, b)
		expectFeed(t, start, b, end, all)
		s := start
		var parts []api.Telegram
		for from := 0; from < len(b); {
			to := min(len(b), from+1+r.Intn(1+r.Intn(100)))
			next, more := feedByDefinition(s, b[from:to])
			expectFeed(t, s, b[from:to], next, more)
			s, parts, from = next, append(parts, more...), to
		}
		if !equalTelegrams(parts, all) || !equal(s, end) {
			t.Fatalf("%v in parts: %v and %v, in one: %v and %v", b, parts, s, all, end)
		}
		given += len(all)
		if t.Failed() {
			return
		}
	}
	if given < 10000 {
		t.Errorf("only %d telegrams are given out", given)
	}
}

// P10.3, R1: long streams, with many frames and with none.
func TestFeedLongStreams(t *testing.T) {
	const count = 20000
	expectFeed(t, intakeOf(2), streamOf(tels(5, 0, numbers(0, count)...)...), intakeOf(2, waiting(5, 0, count)), tels(5, 0, numbers(0, count)...))
	expectFeed(t, intakeOf(2), bytes.Repeat([]byte{126}, 1<<20), withTail(intakeOf(2), 126), nil)
	expectFeed(t, intakeOf(2), bytes.Repeat([]byte{124}, 1<<20), intakeOf(2), nil)
	expectFeed(t, intakeOf(2), bytes.Repeat([]byte{126, 124}, 1<<20), intakeOf(2), nil)
	r := rand.New(rand.NewSource(106))
	for range 2000 {
		b := make([]byte, r.Intn(300))
		r.Read(b)
		s, given, e := Feed(intakeOf(2), b)
		if e != api.OK || len(given) != 0 || len(s.Stations) != 0 {
			t.Errorf("Feed(%v) = %v, %v, %d", b, s, given, e)
		}
	}
}

// R2: the arguments of Feed are left as they are, and its results are new memory; also with an error.
func TestFeedMemory(t *testing.T) {
	base := changed(func(*api.Intake) {})
	invalid := changed(func(s *api.Intake) { s.Window = -1 })
	stream := slices.Concat([]byte{124}, streamOf(tel(5, 4, 10), tel(5, 4, 11), tel(5, 4, 19), tel(6, 1, 0), tel(0, 0, 1), tel(9, 0, 0), tel(4, 9, 2)), []byte{126, 8})
	around := append(bytes.Clone(stream), 124, 126)
	before := bytes.Clone(around)
	for _, b := range [][]byte{nil, around[:0], around[:len(stream)], around[:30], {124}, {7}, {126}} {
		for _, s := range []api.Intake{base, invalid, intakeOf(3), intakeOf(3, many(64, 1)...)} {
			expectOwnMemory(t, s, func(s api.Intake) (api.Intake, []api.Telegram) {
				next, given, _ := Feed(s, b)
				return next, given
			})
		}
	}
	if !bytes.Equal(around, before) {
		t.Errorf("%v became %v", before, around)
	}
}
