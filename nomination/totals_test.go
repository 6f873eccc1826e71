package nomination

import (
	"math/rand"
	"slices"
	"testing"

	"batchline/api"
)

// expectTotals checks both results of Totals.
func expectTotals(t *testing.T, l, want []api.Nomination) {
	t.Helper()
	if got, e := Totals(l); !slices.Equal(got, want) || e != api.OK {
		t.Errorf("Totals(%v) = %v, %d, want %v", l, got, e, want)
	}
}

// P11.3: sums of one key, and of two.
func TestTotals(t *testing.T) {
	expectTotals(t, nil, nil)
	expectTotals(t, []api.Nomination{}, nil)
	expectTotals(t, []api.Nomination{acme()}, []api.Nomination{acme()})
	expectTotals(t, []api.Nomination{withVolume(50), withVolume(70)}, []api.Nomination{withVolume(120)})
	expectTotals(t, []api.Nomination{withVolume(50), withVolume(50), withVolume(50)}, []api.Nomination{withVolume(150)})
	other := withCycle(2)
	expectTotals(t, []api.Nomination{withVolume(1), other, withVolume(2), other, withVolume(4)},
		[]api.Nomination{{Shipper: "acme", Product: "diesel", From: "porta", To: "portb", Cycle: 2, Volume: 100000}, withVolume(7)})
	expectTotals(t, table(api.MaxLines), table(api.MaxLines))
	expectTotals(t, slices.Repeat([]api.Nomination{withVolume(3)}, api.MaxLines), []api.Nomination{withVolume(3 * api.MaxLines)})
}

// P11.3: nominations that differ in one field other than Volume have different keys.
func TestTotalsKeys(t *testing.T) {
	for _, other := range []api.Nomination{withCycle(4), withName(0, "acme-"), withName(1, "diesel-"), withName(2, "porta-"), withName(3, "portb-")} {
		expectTotals(t, []api.Nomination{other, acme(), other}, []api.Nomination{acme(), {Shipper: other.Shipper, Product: other.Product, From: other.From, To: other.To, Cycle: other.Cycle, Volume: 100000}})
	}
	// From and To are not the same when they are exchanged.
	back := api.Nomination{Shipper: "acme", Product: "diesel", From: "portb", To: "porta", Cycle: 3, Volume: 1}
	expectTotals(t, []api.Nomination{back, acme()}, []api.Nomination{acme(), back})
	// Names that would be the same one behind the other.
	a, b := withName(0, "acmed"), withName(0, "acme")
	a.Product, b.Product = "iesel", "diesel"
	expectTotals(t, []api.Nomination{a, b}, []api.Nomination{b, a})
}

// P11.3: each field orders keys, before all those behind it.
func TestTotalsOrder(t *testing.T) {
	in := []api.Nomination{
		{Shipper: "b", Product: "b", From: "y", To: "z", Cycle: 9, Volume: 9},
		{Shipper: "a", Product: "b", From: "y", To: "z", Cycle: 10, Volume: 8},
		{Shipper: "a-", Product: "a", From: "y", To: "z", Cycle: 10, Volume: 7},
		{Shipper: "a0", Product: "a", From: "y", To: "z", Cycle: 10, Volume: 6},
		{Shipper: "aa", Product: "a", From: "y", To: "z", Cycle: 10, Volume: 5},
		{Shipper: "b", Product: "a", From: "y", To: "z", Cycle: 10, Volume: 4},
		{Shipper: "b", Product: "b", From: "x", To: "z", Cycle: 10, Volume: 3},
		{Shipper: "b", Product: "b", From: "y", To: "w", Cycle: 10, Volume: 2},
		{Shipper: "b", Product: "b", From: "y", To: "z", Cycle: 10, Volume: 1},
		{Shipper: "a", Product: "a", From: "a", To: "b", Cycle: 100, Volume: 10},
	}
	expectTotals(t, in, in)
	turned := slices.Clone(in)
	slices.Reverse(turned)
	expectTotals(t, turned, in)
	for i := range in {
		expectTotals(t, slices.Concat(in[i:], in[:i]), in)
	}
}

// P11.3: sums of MaxVolume, and one litre more, for the first key and for others.
func TestTotalsLimit(t *testing.T) {
	most := withVolume(api.MaxVolume)
	expectTotals(t, []api.Nomination{withVolume(1), withVolume(api.MaxVolume - 1)}, []api.Nomination{most})
	ahead, behind := withCycle(0), withCycle(9)
	expectTotals(t, []api.Nomination{behind, most, ahead}, []api.Nomination{ahead, most, behind})
	// The limit is that of each sum, not of all together.
	ahead.Volume, behind.Volume = api.MaxVolume, api.MaxVolume
	expectTotals(t, []api.Nomination{behind, most, ahead}, []api.Nomination{ahead, most, behind})
	for _, l := range [][]api.Nomination{
		{most, withVolume(1)},
		{withVolume(1), most},
		{withVolume(1), withVolume(api.MaxVolume - 1), withVolume(1)},
		{behind, most, ahead, withVolume(1)},
		{withCycle(0), most, withVolume(1)},
		{withCycle(9), most, withVolume(1)},
		slices.Repeat([]api.Nomination{most}, api.MaxLines),
		append(table(api.MaxLines-2), most, most),
	} {
		if got, e := Totals(l); len(got) > 0 || e != api.ErrLimit {
			t.Errorf("Totals = %v, %d, want the error %d", got, e, api.ErrLimit)
		}
	}
	expectError(t, "a sum too great, and one not valid", []api.Nomination{most, most, withVolume(0)}, api.ErrInvalid)
	expectError(t, "one not valid, whose sum would be", []api.Nomination{withVolume(-1), withVolume(5)}, api.ErrInvalid)
	expectError(t, "one that would make a sum small", []api.Nomination{most, most, withVolume(-api.MaxVolume)}, api.ErrInvalid)
}

// follows reports whether the key of b comes behind that of a, by the definition.
func follows(a, b api.Nomination) bool {
	switch {
	case a.Cycle != b.Cycle:
		return a.Cycle < b.Cycle
	case a.Shipper != b.Shipper:
		return a.Shipper < b.Shipper
	case a.Product != b.Product:
		return a.Product < b.Product
	case a.From != b.From:
		return a.From < b.From
	}
	return a.To < b.To
}

// sumOf is the sum of the volumes of the nominations of l with the key of n.
func sumOf(l []api.Nomination, n api.Nomination) int {
	sum := 0
	for _, x := range l {
		volume := x.Volume
		x.Volume = n.Volume
		if x == n {
			sum += volume
		}
	}
	return sum
}

// P11.3: the definition, for many lists: the keys ascend, each has its sum, and none is missing. Their order, and a second time, change nothing.
func TestTotalsByDefinition(t *testing.T) {
	r := rand.New(rand.NewSource(3))
	for range 500 {
		l := anyList(r)
		got, e := Totals(l)
		if e != api.OK {
			t.Fatalf("Totals(%v): error %d", l, e)
		}
		all, sums := 0, 0
		for i, n := range got {
			if i > 0 && !follows(got[i-1], n) {
				t.Fatalf("Totals(%v): %v comes behind %v", l, n, got[i-1])
			}
			if want := sumOf(l, n); n.Volume != want {
				t.Fatalf("Totals(%v): the sum of %v is %d", l, n, want)
			}
			sums += n.Volume
		}
		for _, n := range l {
			all += n.Volume
		}
		if all != sums {
			t.Fatalf("Totals(%v): %d litres in all, want %d", l, sums, all)
		}
		expectTotals(t, got, got)
		r.Shuffle(len(l), func(i, j int) { l[i], l[j] = l[j], l[i] })
		expectTotals(t, l, got)
	}
}

// R2: no function changes its argument or the capacity behind it, and results share no memory.
func TestMemory(t *testing.T) {
	backwards := func() []api.Nomination {
		l := append(table(5), table(5)...)
		slices.Reverse(l)
		return l
	}
	whole := backwards()
	l := whole[2:7]
	Check(l)
	text, _ := Format(l)
	first, _ := Totals(l)
	second, _ := Totals(l)
	clear(first[:cap(first)])
	if !slices.Equal(whole, backwards()) {
		t.Errorf("the nominations became %v", whole)
	}
	if len(second) == 0 || slices.Equal(first, second) {
		t.Errorf("two results of Totals share memory: %v", second)
	}
	read, _, _ := Parse(text)
	again, _, _ := Parse(text)
	clear(read[:cap(read)])
	if !slices.Equal(again, l) {
		t.Errorf("two results of Parse share memory: %v", again)
	}
}
