package intake

import (
	"bytes"
	"math"
	"math/rand"
	"slices"
	"testing"

	"batchline/api"
)

// equalTelegrams reports whether a and b are the same; a nil list is an empty one.
func equalTelegrams(a, b []api.Telegram) bool {
	return slices.EqualFunc(a, b, func(a, b api.Telegram) bool {
		return a.Station == b.Station && a.Epoch == b.Epoch && a.Seq == b.Seq && a.Time == b.Time && a.Kind == b.Kind && slices.Equal(a.Values, b.Values)
	})
}

// equal reports whether a and b are the same.
func equal(a, b api.Intake) bool {
	return a.Window == b.Window && bytes.Equal(a.Tail, b.Tail) && slices.EqualFunc(a.Stations, b.Stations, func(a, b api.Waiting) bool {
		return a.Station == b.Station && a.Epoch == b.Epoch && a.Next == b.Next && equalTelegrams(a.Held, b.Held)
	})
}

// tel is a telegram; its other numbers depend on these, so that telegrams are told apart.
func tel(station, epoch, seq int) api.Telegram {
	return api.Telegram{Station: station, Epoch: epoch, Seq: seq, Time: seq, Kind: (station + epoch) % 64, Values: []int{station, epoch, -seq}}
}

// tels are telegrams of a station and an epoch.
func tels(station, epoch int, seqs ...int) []api.Telegram {
	var all []api.Telegram
	for _, seq := range seqs {
		all = append(all, tel(station, epoch, seq))
	}
	return all
}

// waiting is the entry of a station, that holds the telegrams of seqs.
func waiting(station, epoch, next int, seqs ...int) api.Waiting {
	return api.Waiting{Station: station, Epoch: epoch, Next: next, Held: tels(station, epoch, seqs...)}
}

// intakeOf is an intake with entries, and nothing else.
func intakeOf(window int, stations ...api.Waiting) api.Intake {
	return api.Intake{Window: window, Stations: stations}
}

// expectAccept checks what Accept returns.
func expectAccept(t *testing.T, s api.Intake, x api.Telegram, want api.Intake, given []api.Telegram) {
	t.Helper()
	got, gotGiven, e := Accept(s, x)
	if e != api.OK || !equal(got, want) || !equalTelegrams(gotGiven, given) {
		t.Errorf("Accept(%v, %v) = %v, %v, %d, want %v, %v", s, x, got, gotGiven, e, want, given)
	}
}

// expectRefused checks that Accept returns an error, with the intake as it is.
func expectRefused(t *testing.T, s api.Intake, x api.Telegram, want api.Errno) {
	t.Helper()
	if got, given, e := Accept(s, x); e != want || !equal(got, s) || len(given) != 0 {
		t.Errorf("Accept(%v, %v) = %v, %v, %d, want the error %d", s, x, got, given, e, want)
	}
}

// P10.2: the examples of the chapter.
func TestAcceptExamples(t *testing.T) {
	type in = struct {
		seq  int
		want []int
	}
	for _, row := range [][]in{
		{{0, []int{0}}, {2, nil}, {1, []int{1, 2}}, {1, nil}, {3, []int{3}}},
		{{1, nil}, {2, nil}, {3, []int{1, 2, 3}}},
	} {
		s, _ := New(2)
		for _, x := range row {
			next, given, e := Accept(s, tel(7, 0, x.seq))
			if e != api.OK || !equalTelegrams(given, tels(7, 0, x.want...)) {
				t.Errorf("%v, the Seq %d: %v, %d", row, x.seq, given, e)
			}
			s = next
		}
	}
}

// P10.2: one telegram of a station that has an entry, and a window of 3.
func TestAcceptOne(t *testing.T) {
	for _, x := range []struct {
		was        api.Waiting
		epoch, seq int
		is         api.Waiting
		given      []int
	}{
		// The next one, and what follows it.
		{waiting(5, 4, 10), 4, 10, waiting(5, 4, 11), []int{10}},
		{waiting(5, 4, 10, 12), 4, 10, waiting(5, 4, 11, 12), []int{10}},
		{waiting(5, 4, 10, 11), 4, 10, waiting(5, 4, 12), []int{10, 11}},
		{waiting(5, 4, 10, 11, 13), 4, 10, waiting(5, 4, 12, 13), []int{10, 11}},
		{waiting(5, 4, 10, 11, 12, 13), 4, 10, waiting(5, 4, 14), []int{10, 11, 12, 13}},
		{waiting(5, 4, 0), 4, 0, waiting(5, 4, 1), []int{0}},
		// One that is ahead: in front of the Held ones, between them, and behind them.
		{waiting(5, 4, 10), 4, 11, waiting(5, 4, 10, 11), nil},
		{waiting(5, 4, 10, 13, 16), 4, 11, waiting(5, 4, 10, 11, 13, 16), nil},
		{waiting(5, 4, 10, 13, 16), 4, 14, waiting(5, 4, 10, 13, 14, 16), nil},
		{waiting(5, 4, 10, 13, 16), 4, 1 << 31, waiting(5, 4, 10, 13, 16, 1<<31), nil},
		// Twice, and late.
		{waiting(5, 4, 10, 13, 16), 4, 13, waiting(5, 4, 10, 13, 16), nil},
		{waiting(5, 4, 10, 13, 16), 4, 16, waiting(5, 4, 10, 13, 16), nil},
		{waiting(5, 4, 10, 13, 14, 16), 4, 14, waiting(5, 4, 10, 13, 14, 16), nil},
		{waiting(5, 4, 10, 13), 4, 9, waiting(5, 4, 10, 13), nil},
		{waiting(5, 4, 10), 4, 0, waiting(5, 4, 10), nil},
		// More than the window: the missing ones up to the first one are waited for no longer.
		{waiting(5, 4, 10, 13, 16, 18), 4, 20, waiting(5, 4, 14, 16, 18, 20), []int{13}},
		{waiting(5, 4, 10, 13, 16, 18), 4, 11, waiting(5, 4, 12, 13, 16, 18), []int{11}},
		{waiting(5, 4, 10, 13, 16, 18), 4, 12, waiting(5, 4, 14, 16, 18), []int{12, 13}},
		{waiting(5, 4, 10, 13, 16, 18), 4, 14, waiting(5, 4, 15, 16, 18), []int{13, 14}},
		{waiting(5, 4, 10, 13, 14, 15), 4, 16, waiting(5, 4, 17), []int{13, 14, 15, 16}},
		// An older epoch, whatever the Seq.
		{waiting(5, 4, 10, 13), 3, 9, waiting(5, 4, 10, 13), nil},
		{waiting(5, 4, 10, 13), 3, 10, waiting(5, 4, 10, 13), nil},
		{waiting(5, 4, 10, 13), 3, 11, waiting(5, 4, 10, 13), nil},
		{waiting(5, 4, 10, 13), 0, 1 << 31, waiting(5, 4, 10, 13), nil},
		{waiting(5, 4, 10, 13, 16, 18), 3, 20, waiting(5, 4, 10, 13, 16, 18), nil},
		// The end of the numbers.
		{waiting(5, 4, 1<<31), 4, 1 << 31, waiting(5, 4, 1<<31+1), []int{1 << 31}},
		{waiting(5, 4, 1<<31+1), 4, 1 << 31, waiting(5, 4, 1<<31+1), nil},
		{waiting(5, 4, 1<<31-1, 1<<31), 4, 1<<31 - 1, waiting(5, 4, 1<<31+1), []int{1<<31 - 1, 1 << 31}},
	} {
		// The entries around it, the Tail and the Window stay as they are.
		around := func(w api.Waiting) api.Intake {
			return api.Intake{Window: 3, Tail: []byte{126, 1, 2}, Stations: []api.Waiting{waiting(4, 9, 0, 1, 3), w, waiting(6, 0, 10, 11)}}
		}
		expectAccept(t, around(x.was), tel(5, x.epoch, x.seq), around(x.is), tels(5, 4, x.given...))
	}
}

// P10.2: a greater epoch: what is held of the old one is given out, with gaps; then the new one begins at 0.
func TestAcceptEpoch(t *testing.T) {
	for _, x := range []struct {
		was        api.Waiting
		epoch, seq int
		is         api.Waiting
		old, new   []int
	}{
		{waiting(5, 4, 10), 5, 0, waiting(5, 5, 1), nil, []int{0}},
		{waiting(5, 4, 10), 5, 10, waiting(5, 5, 0, 10), nil, nil},
		{waiting(5, 4, 10), 5, 9, waiting(5, 5, 0, 9), nil, nil},
		{waiting(5, 4, 10, 12, 14), 5, 0, waiting(5, 5, 1), []int{12, 14}, []int{0}},
		{waiting(5, 4, 10, 12, 14), 5, 12, waiting(5, 5, 0, 12), []int{12, 14}, nil},
		{waiting(5, 4, 10, 12, 14), 255, 1, waiting(5, 255, 0, 1), []int{12, 14}, nil},
		{waiting(5, 4, 0, 1), 5, 0, waiting(5, 5, 1), []int{1}, []int{0}},
		{waiting(5, 0, 1<<31+1), 1, 0, waiting(5, 1, 1), nil, []int{0}},
		{waiting(5, 0, 1<<31+1), 1, 1 << 31, waiting(5, 1, 0, 1<<31), nil, nil},
	} {
		given := slices.Concat(tels(5, 4, x.old...), tels(5, x.epoch, x.new...))
		expectAccept(t, intakeOf(2, x.was), tel(5, x.epoch, x.seq), intakeOf(2, x.is), given)
		expectAccept(t, intakeOf(16, x.was), tel(5, x.epoch, x.seq), intakeOf(16, x.is), given)
	}
	// Without a window nothing is waited for.
	expectAccept(t, intakeOf(0, waiting(5, 4, 10)), tel(5, 5, 7), intakeOf(0, waiting(5, 5, 8)), tels(5, 5, 7))
}

// P10.2: a station that has no entry gets one, at its place, with its epoch and the Next 0.
func TestAcceptNewStation(t *testing.T) {
	for _, epoch := range []int{0, 1, 255} {
		expectAccept(t, intakeOf(2), tel(0, epoch, 0), intakeOf(2, waiting(0, epoch, 1)), tels(0, epoch, 0))
		expectAccept(t, intakeOf(2), tel(255, epoch, 3), intakeOf(2, waiting(255, epoch, 0, 3)), nil)
		expectAccept(t, intakeOf(0), tel(255, epoch, 3), intakeOf(0, waiting(255, epoch, 4)), tels(255, epoch, 3))
	}
	two := []api.Waiting{waiting(3, 1, 4, 6), waiting(8, 0, 2)}
	for station := range 12 {
		if station == 3 || station == 8 {
			continue
		}
		want := []api.Waiting{waiting(station, 2, 0, 1)}
		for _, w := range two {
			at := len(want)
			if w.Station < station {
				at--
			}
			want = slices.Insert(want, at, w)
		}
		expectAccept(t, intakeOf(2, two...), tel(station, 2, 1), intakeOf(2, want...), nil)
	}
}

// many are stations with entries, step apart.
func many(count, step int) []api.Waiting {
	var all []api.Waiting
	for i := range count {
		all = append(all, waiting(i*step, 1, 5, 7))
	}
	return all
}

// P10.2: at most MaxPending stations; those that have an entry go on.
func TestAcceptLimit(t *testing.T) {
	full := intakeOf(2, many(64, 3)...)
	for station := range 256 {
		if station%3 == 0 && station < 3*64 {
			want := intakeOf(2, many(64, 3)...)
			want.Stations[station/3] = waiting(station, 1, 6, 7)
			expectAccept(t, full, tel(station, 1, 5), want, tels(station, 1, 5))
		} else {
			expectRefused(t, full, tel(station, 0, 0), api.ErrLimit)
			expectRefused(t, full, tel(station, 255, 9), api.ErrLimit)
		}
	}
	almost := intakeOf(2, many(63, 3)...)
	expectAccept(t, almost, tel(3*63, 1, 7), intakeOf(2, append(many(63, 3), waiting(3*63, 1, 0, 7))...), nil)
}

// invalidTelegrams are telegrams that are not valid, each for one reason only.
func invalidTelegrams() []api.Telegram {
	all := []api.Telegram{
		{Station: -1}, {Station: 256}, {Epoch: -1}, {Epoch: 256}, {Seq: -1}, {Seq: 1<<31 + 1}, {Time: -1}, {Time: 1<<40 + 1}, {Kind: -1}, {Kind: 64},
		{Values: make([]int, 17)}, {Values: []int{0, 1<<53 + 1}}, {Values: []int{-1<<53 - 1}},
	}
	for _, n := range []int{math.MinInt, math.MaxInt} {
		all = append(all, api.Telegram{Station: n}, api.Telegram{Epoch: n}, api.Telegram{Seq: n}, api.Telegram{Time: n}, api.Telegram{Kind: n}, api.Telegram{Values: []int{n}})
	}
	return all
}

// P10.2: a telegram that is not valid; this comes before there being too many stations.
func TestAcceptForm(t *testing.T) {
	full := intakeOf(2, many(64, 3)...)
	for _, x := range invalidTelegrams() {
		expectRefused(t, intakeOf(2), x, api.ErrForm)
		expectRefused(t, api.Intake{Window: 16, Tail: []byte{126, 5}, Stations: many(3, 1)}, x, api.ErrForm)
		expectRefused(t, full, x, api.ErrForm)
		if x.Station == 0 {
			// Another station, for which there is no room either.
			x.Station = 1
			expectRefused(t, full, x, api.ErrForm)
		}
	}
}

// numbers are count numbers from first on.
func numbers(first, count int) []int {
	var all []int
	for i := range count {
		all = append(all, first+i)
	}
	return all
}

// validIntakes are valid, some of them by the ends of ranges.
func validIntakes() []api.Intake {
	bare := bytes.Repeat([]byte{125}, 400)
	bare[0] = 126
	all := []api.Intake{
		{}, {Tail: []byte{}, Stations: []api.Waiting{}}, {Tail: []byte{126}}, {Tail: []byte{126, 125, 0, 255}}, {Tail: bare}, {Tail: bare[:399]},
		{Window: 16, Tail: bare, Stations: many(64, 4)},
		intakeOf(1, many(64, 1)...),
		intakeOf(0, waiting(0, 0, 0), waiting(255, 255, 1<<31+1)),
		intakeOf(1, waiting(255, 255, 1<<31-1, 1<<31)),
		intakeOf(2, waiting(0, 0, 0, 1, 1<<31)),
		intakeOf(16, waiting(0, 0, 0, numbers(1, 16)...), waiting(1, 0, 0, numbers(1<<31-15, 16)...)),
		intakeOf(3, waiting(9, 9, 9, 10, 11, 12)),
	}
	for window := range 17 {
		all = append(all, intakeOf(window, waiting(3, 0, 5, numbers(6, window)...)), intakeOf(window))
	}
	return all
}

// changed is a valid intake that change has made another one.
func changed(change func(*api.Intake)) api.Intake {
	s := api.Intake{Window: 3, Tail: []byte{126, 1, 2}, Stations: []api.Waiting{waiting(4, 9, 0, 1, 3), waiting(5, 4, 10, 12, 14, 16), waiting(6, 0, 10)}}
	change(&s)
	return s
}

// withHeld is an intake in which a Held telegram between two others was changed.
func withHeld(change func(*api.Telegram)) api.Intake {
	return changed(func(s *api.Intake) { change(&s.Stations[1].Held[1]) })
}

// invalidHeld are intakes that are not valid for their Held telegrams.
func invalidHeld() []api.Intake {
	all := []api.Intake{
		withHeld(func(x *api.Telegram) { x.Station = 6 }),
		withHeld(func(x *api.Telegram) { x.Station = 4 }),
		withHeld(func(x *api.Telegram) { x.Epoch = 3 }),
		withHeld(func(x *api.Telegram) { x.Epoch = 5 }),
		withHeld(func(x *api.Telegram) { x.Seq = 11 }),
		withHeld(func(x *api.Telegram) { x.Seq = 12 }),
		withHeld(func(x *api.Telegram) { x.Seq = 16 }),
		withHeld(func(x *api.Telegram) { x.Seq = 17 }),
		withHeld(func(x *api.Telegram) { x.Time = -1 }),
		withHeld(func(x *api.Telegram) { x.Kind = 64 }),
		withHeld(func(x *api.Telegram) { x.Values = make([]int, 17) }),
		withHeld(func(x *api.Telegram) { x.Values = []int{1<<53 + 1} }),
		// The first one is Next, or less.
		intakeOf(3, waiting(5, 4, 10, 10)), intakeOf(3, waiting(5, 4, 10, 9)), intakeOf(3, waiting(5, 4, 10, 0)), intakeOf(3, waiting(5, 4, 10, 10, 11)), intakeOf(3, waiting(5, 4, 0, 0)),
		intakeOf(3, waiting(5, 4, 1<<31, 1<<31)), intakeOf(3, waiting(5, 4, 1<<31+1, 1<<31)), intakeOf(3, waiting(5, 4, 1<<31, 1<<31+1)),
		intakeOf(3, waiting(5, 4, 10, 13, 12)), intakeOf(3, waiting(5, 4, 10, 13, 13)), intakeOf(3, waiting(5, 4, -1, 0)),
		// Whole entries whose numbers their Held ones share.
		intakeOf(3, waiting(256, 4, 10, 12)), intakeOf(3, waiting(-1, 4, 10, 12)), intakeOf(3, waiting(5, 256, 10, 12)), intakeOf(3, waiting(5, -1, 10, 12)),
	}
	for window := range 17 {
		all = append(all, intakeOf(window, waiting(3, 0, 5, numbers(6, window+1)...)), intakeOf(window, waiting(3, 0, 5, numbers(6, window+20)...)))
	}
	return all
}

// invalidIntakes are not valid, each for one reason only.
func invalidIntakes() []api.Intake {
	bare := bytes.Repeat([]byte{1}, 402)
	bare[0] = 126
	all := invalidHeld()
	for _, tail := range [][]byte{{1}, {124}, {125}, {1, 126}, {124, 126}, {126, 126}, {126, 1, 126}, {126, 1, 126, 2}, {126, 124}, {126, 1, 124}, {126, 1, 124, 2}, {126, 124, 126}, {126, 1, 124, 126, 1}, bare[:401], bare, bare[1:], make([]byte, 1000)} {
		all = append(all, changed(func(s *api.Intake) { s.Tail = tail }), api.Intake{Tail: tail})
	}
	for _, n := range []int{math.MinInt, -1, 17, 1 << 40, math.MaxInt} {
		all = append(all, changed(func(s *api.Intake) { s.Window = n }), api.Intake{Window: n})
	}
	for _, n := range []int{math.MinInt, -2, -1, 256, 257, math.MaxInt} {
		all = append(all, intakeOf(3, waiting(n, 0, 0)), intakeOf(3, waiting(1, n, 0)))
	}
	for _, n := range []int{math.MinInt, -2, -1, 1<<31 + 2, 1<<31 + 3, math.MaxInt} {
		all = append(all, intakeOf(3, waiting(1, 0, n)))
	}
	return append(all,
		intakeOf(3, waiting(5, 0, 0), waiting(5, 0, 0)), intakeOf(3, waiting(5, 0, 0), waiting(4, 0, 0)), intakeOf(3, waiting(1, 0, 0), waiting(3, 0, 0), waiting(2, 0, 0)), intakeOf(3, waiting(1, 0, 0), waiting(2, 0, 0), waiting(2, 1, 0)),
		intakeOf(3, many(65, 1)...), intakeOf(3, many(65, 3)...), intakeOf(3, many(200, 1)...),
		intakeOf(3, append(many(10, 2), waiting(300, 0, 0))...), intakeOf(3, waiting(256, 0, 0), waiting(1, 0, 0)),
	)
}

// P10.2, P10.3: an intake that is not valid is given back as it is, before all other errors.
func TestInvalidIntakes(t *testing.T) {
	for _, s := range invalidIntakes() {
		for _, x := range append(invalidTelegrams(), api.Telegram{}, tel(5, 4, 10), tel(5, 4, 11), tel(200, 0, 0)) {
			expectRefused(t, s, x, api.ErrInvalid)
		}
		for _, b := range [][]byte{nil, {1}, {126}, {124}, {126, 1, 124}, bytesOf(tel(5, 4, 10)), bytesOf(tel(200, 0, 0))} {
			if got, given, e := Feed(s, b); e != api.ErrInvalid || !equal(got, s) || len(given) != 0 {
				t.Errorf("Feed(%v, %v) = %v, %v, %d", s, b, got, given, e)
			}
		}
	}
}

// P10.2, P10.3: a valid intake is taken, and so is what becomes of it.
func TestValidIntakes(t *testing.T) {
	for _, s := range validIntakes() {
		if got, given, e := Feed(s, nil); e != api.OK || !equal(got, s) || len(given) != 0 {
			t.Errorf("Feed(%v) of nothing = %v, %v, %d", s, got, given, e)
		}
		for _, x := range []api.Telegram{tel(0, 0, 0), tel(3, 0, 5), tel(3, 0, 7), tel(3, 0, 60), tel(3, 1, 1), tel(255, 255, 1<<31), tel(1, 0, 1<<31)} {
			got, _, e := Accept(s, x)
			expected := e == api.OK || e == api.ErrLimit && len(s.Stations) == 64
			if _, _, again := Accept(got, x); !expected || again == api.ErrInvalid {
				t.Errorf("Accept(%v, %v) = %v, %d", s, x, got, e)
			}
		}
	}
}

// model is the entry of a station, by the definition: Held telegrams by their Seqs.
type model struct {
	epoch, next int
	held        map[int]api.Telegram
}

// least is the least Seq that m holds.
func (m *model) least() int {
	first := math.MaxInt
	for seq := range m.held {
		first = min(first, seq)
	}
	return first
}

// giveOut takes telegrams out of m as long as the next one is there; all of them if all is true.
func (m *model) giveOut(all bool) []api.Telegram {
	var given []api.Telegram
	for len(m.held) > 0 && (all || m.least() == m.next) {
		first := m.least()
		given = append(given, m.held[first])
		delete(m.held, first)
		m.next = first + 1
	}
	return given
}

// models are the entries of all stations.
type models map[int]*model

// accept is what Accept gives out by the definition, if there is room.
func (all models) accept(window int, x api.Telegram) []api.Telegram {
	m := all[x.Station]
	if m == nil {
		if len(all) == 64 {
			return nil
		}
		m = &model{epoch: x.Epoch, held: map[int]api.Telegram{}}
		all[x.Station] = m
	}
	_, twice := m.held[x.Seq]
	if x.Epoch < m.epoch || x.Epoch == m.epoch && (x.Seq < m.next || twice) {
		return nil
	}
	var given []api.Telegram
	if x.Epoch > m.epoch {
		given = m.giveOut(true)
		m.epoch, m.next = x.Epoch, 0
	}
	m.held[x.Seq] = x
	given = append(given, m.giveOut(false)...)
	if len(m.held) > window {
		m.next = m.least()
		given = append(given, m.giveOut(false)...)
	}
	return given
}

// intake is the intake with these entries.
func (all models) intake(window int) api.Intake {
	s := api.Intake{Window: window}
	for station := range 256 {
		m := all[station]
		if m == nil {
			continue
		}
		w := api.Waiting{Station: station, Epoch: m.epoch, Next: m.next}
		for _, x := range m.held {
			w.Held = append(w.Held, x)
		}
		slices.SortFunc(w.Held, func(a, b api.Telegram) int { return a.Seq - b.Seq })
		s.Stations = append(s.Stations, w)
	}
	return s
}

// anyTelegram is a telegram that is often near to what m waits for.
func anyTelegram(r *rand.Rand, all models, stations, window int) api.Telegram {
	station := r.Intn(stations)
	epoch, next := r.Intn(3), 0
	if m := all[station]; m != nil {
		epoch, next = m.epoch, m.next
	}
	switch r.Intn(40) {
	case 0:
		epoch, next = min(255, epoch+1+r.Intn(2)), 0
	case 1:
		epoch = max(0, epoch-1)
	case 2:
		next = 1<<31 - r.Intn(5)
	}
	return tel(station, epoch, min(1<<31, max(0, next+r.Intn(2*window+5)-3)))
}

// P10.2: many telegrams, by the definition.
func TestAcceptByDefinition(t *testing.T) {
	r := rand.New(rand.NewSource(102))
	for round := range 300 {
		window := r.Intn(17)
		stations := []int{1, 2, 5, 90}[round%4]
		all := models{}
		s, _ := New(window)
		for range 300 {
			x := anyTelegram(r, all, stations, window)
			refused := all[x.Station] == nil && len(all) == 64
			want := all.accept(window, x)
			next, given, e := Accept(s, x)
			if refused != (e == api.ErrLimit) || !equalTelegrams(given, want) || !equal(next, all.intake(window)) {
				t.Fatalf("Accept(%v, %v) = %v, %v, %d, want %v, %v", s, x, next, given, e, all.intake(window), want)
			}
			s = next
		}
	}
}

// acceptAll is what is given out for telegrams, one after the other.
func acceptAll(t *testing.T, window int, list []api.Telegram) []api.Telegram {
	t.Helper()
	s, _ := New(window)
	var all []api.Telegram
	for _, x := range list {
		next, given, e := Accept(s, x)
		if e != api.OK {
			t.Fatalf("Accept(%v, %v): %d", s, x, e)
		}
		s, all = next, append(all, given...)
	}
	return all
}

// P10.2: telegrams that come twice, or late, but never more than the window ahead of a missing one, are given out as if they had come in order.
func TestAcceptLateAndTwice(t *testing.T) {
	r := rand.New(rand.NewSource(103))
	const count = 60
	want := tels(2, 1, numbers(0, count)...)
	for range 500 {
		window := r.Intn(17)
		var come []api.Telegram
		missing := slices.Clone(want)
		for len(missing) > 0 {
			// Those up to the window behind the first missing one.
			near := 0
			for near < len(missing) && missing[near].Seq <= missing[0].Seq+window {
				near++
			}
			at := r.Intn(near)
			come = append(come, missing[at])
			missing = slices.Delete(missing, at, at+1)
			if r.Intn(2) == 0 {
				come = append(come, come[r.Intn(len(come))])
			}
		}
		if got := acceptAll(t, window, come); !equalTelegrams(got, want) {
			t.Fatalf("window %d, %v: given out %v", window, come, got)
		}
	}
}

// P10.2: what is given out of a station is in order, each telegram at most once, whatever comes.
func TestAcceptInOrder(t *testing.T) {
	r := rand.New(rand.NewSource(104))
	for range 300 {
		var come []api.Telegram
		for range 200 {
			come = append(come, tel(r.Intn(3), r.Intn(3), r.Intn(40)))
		}
		last := map[int]api.Telegram{}
		for _, x := range acceptAll(t, r.Intn(17), come) {
			before, ok := last[x.Station]
			if ok && (x.Epoch < before.Epoch || x.Epoch == before.Epoch && x.Seq <= before.Seq) {
				t.Fatalf("%v is given out behind %v", x, before)
			}
			last[x.Station] = x
		}
	}
}

// copied is s, by hand, with nothing around its lists.
func copied(s api.Intake) api.Intake {
	s.Tail = append([]byte(nil), s.Tail...)
	stations := append([]api.Waiting(nil), s.Stations...)
	for i := range stations {
		stations[i].Held = copiedTelegrams(stations[i].Held)
	}
	s.Stations = stations
	return s
}

// copiedTelegrams is list, by hand.
func copiedTelegrams(list []api.Telegram) []api.Telegram {
	out := append([]api.Telegram(nil), list...)
	for i := range out {
		out[i].Values = append([]int(nil), out[i].Values...)
	}
	return out
}

// spoilTelegrams overwrites all that list can reach.
func spoilTelegrams(list []api.Telegram) {
	list = list[:cap(list)]
	for i := range list {
		values := list[i].Values[:cap(list[i].Values)]
		for k := range values {
			values[k] = 777
		}
		list[i] = api.Telegram{Station: 777}
	}
}

// spoil overwrites all that s can reach.
func spoil(s api.Intake) {
	overwrite(s.Tail)
	stations := s.Stations[:cap(s.Stations)]
	for i := range stations {
		spoilTelegrams(stations[i].Held)
		stations[i] = api.Waiting{Station: 777}
	}
}

// roomy is s with spare capacity behind each of its lists, in which something stands.
func roomy(s api.Intake) (api.Intake, func() bool) {
	s = copied(s)
	tail := append(s.Tail, 55, 55)
	stations := append(s.Stations, waiting(99, 1, 1, 2), waiting(99, 1, 1, 2))
	s.Tail, s.Stations = tail[:len(tail)-2], stations[:len(stations)-2]
	type rest struct {
		list []api.Telegram
		last []api.Telegram
	}
	var rests []rest
	for i, w := range s.Stations {
		held := append(w.Held, tel(99, 9, 9), tel(99, 9, 8))
		s.Stations[i].Held = held[:len(held)-2]
		rests = append(rests, rest{held, copiedTelegrams(held)})
	}
	return s, func() bool {
		ok := bytes.Equal(tail[len(tail)-2:], []byte{55, 55}) && equal(intakeOf(0, stations[len(stations)-2:]...), intakeOf(0, waiting(99, 1, 1, 2), waiting(99, 1, 1, 2)))
		for _, r := range rests {
			ok = ok && equalTelegrams(r.list, r.last)
		}
		return ok
	}
}

// expectOwnMemory checks that run leaves its intake as it is, with what lies around its lists, and that what it returns shares no memory with it, with what another call returns, or with itself.
func expectOwnMemory(t *testing.T, s api.Intake, run func(api.Intake) (api.Intake, []api.Telegram)) {
	t.Helper()
	arg, intact := roomy(s)
	next, given := run(arg)
	again, givenAgain := run(arg)
	want, wantGiven := copied(next), copiedTelegrams(given)
	spoilTelegrams(given)
	if !equal(next, want) {
		t.Errorf("what was given out shares memory with the intake, which became %v", next)
	}
	spoil(next)
	if !equal(again, want) || !equalTelegrams(givenAgain, wantGiven) {
		t.Errorf("two calls share memory: %v and %v became %v and %v", want, wantGiven, again, givenAgain)
	}
	spoil(again)
	if !equalTelegrams(givenAgain, wantGiven) {
		t.Errorf("the intake shares memory with what was given out: %v", givenAgain)
	}
	if !equal(arg, s) || !intact() {
		t.Errorf("%v became %v", s, arg)
	}
}

// R2: the arguments of Accept are left as they are, and its results are new memory; also with an error.
func TestAcceptMemory(t *testing.T) {
	base := changed(func(*api.Intake) {})
	invalid := changed(func(s *api.Intake) { s.Window = -1 })
	for _, x := range []api.Telegram{
		tel(5, 4, 10), tel(5, 4, 11), tel(5, 4, 13), tel(5, 4, 17), tel(5, 4, 12), tel(5, 4, 1), tel(5, 5, 0), tel(5, 5, 3), tel(5, 3, 0),
		tel(4, 9, 0), tel(6, 0, 10), tel(6, 0, 11), tel(0, 0, 0), tel(7, 0, 0), tel(7, 0, 1), {Station: -1},
	} {
		values := append(slices.Clone(x.Values), 55)
		x.Values = values[:len(values)-1]
		before := slices.Clone(values)
		for _, s := range []api.Intake{base, invalid, intakeOf(3, many(64, 1)...), intakeOf(3, many(64, 4)...)} {
			expectOwnMemory(t, s, func(s api.Intake) (api.Intake, []api.Telegram) {
				next, given, _ := Accept(s, x)
				return next, given
			})
		}
		if !slices.Equal(values, before) {
			t.Errorf("the values of %v became %v", x, values)
		}
	}
}
