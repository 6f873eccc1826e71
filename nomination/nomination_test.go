package nomination

import (
	"math"
	"slices"
	"strconv"
	"strings"
	"testing"

	"batchline/api"
)

// acme is the nomination of the chapter's example.
func acme() api.Nomination {
	return api.Nomination{Shipper: "acme", Product: "diesel", From: "porta", To: "portb", Cycle: 3, Volume: 50000}
}

// withName is acme with the name of this index changed, in the order of the line.
func withName(field int, s string) api.Nomination {
	n := acme()
	*[]*string{&n.Shipper, &n.Product, &n.From, &n.To}[field] = s
	return n
}

// withCycle is acme with another cycle.
func withCycle(cycle int) api.Nomination {
	n := acme()
	n.Cycle = cycle
	return n
}

// withVolume is acme with another volume.
func withVolume(volume int) api.Nomination {
	n := acme()
	n.Volume = volume
	return n
}

// table is n valid nominations with different keys, in the order of keys.
func table(n int) []api.Nomination {
	l := make([]api.Nomination, n)
	for i := range l {
		l[i] = api.Nomination{Shipper: "s" + strconv.Itoa(i), Product: "p", From: "a", To: "b", Cycle: i, Volume: 1 + i}
	}
	return l
}

// lineOf is the line of a nomination, valid or not, without its end.
func lineOf(n api.Nomination) string {
	return "nominate " + strconv.Itoa(n.Cycle) + " " + n.Shipper + " " + n.Product + " " + n.From + " " + n.To + " " + strconv.Itoa(n.Volume)
}

// textOf is the lines of nominations, valid or not.
func textOf(l ...api.Nomination) string {
	var b strings.Builder
	for _, n := range l {
		b.WriteString(lineOf(n) + "\n")
	}
	return b.String()
}

// expectError checks that Check, Format and Totals have an error, and no other result.
func expectError(t *testing.T, name string, l []api.Nomination, want api.Errno) {
	t.Helper()
	if e := Check(l); e != want {
		t.Errorf("%s: Check = %d, want %d", name, e, want)
	}
	if text, e := Format(l); text != "" || e != want {
		t.Errorf("%s: Format = %.100q, %d, want the error %d", name, text, e, want)
	}
	if got, e := Totals(l); len(got) > 0 || e != want {
		t.Errorf("%s: Totals = %v, %d, want the error %d", name, got, e, want)
	}
}

// expectValid checks what Check, Format, Totals and Parse say of a nomination alone.
func expectValid(t *testing.T, n api.Nomination, want bool) {
	t.Helper()
	l := []api.Nomination{n}
	if !want {
		expectError(t, lineOf(n), l, api.ErrInvalid)
		return
	}
	if e := Check(l); e != api.OK {
		t.Errorf("Check of %+v = %d", n, e)
	}
	if text, e := Format(l); text != textOf(n) || e != api.OK {
		t.Errorf("Format of %+v = %q, %d", n, text, e)
	}
	if got, e := Totals(l); !slices.Equal(got, l) || e != api.OK {
		t.Errorf("Totals of %+v = %v, %d", n, got, e)
	}
	expectParse(t, lineOf(n), l, 0, api.OK)
}

// expectParse checks all results of Parse.
func expectParse(t *testing.T, text string, want []api.Nomination, line int, e api.Errno) {
	t.Helper()
	if gotL, gotLine, gotE := Parse(text); !slices.Equal(gotL, want) || gotLine != line || gotE != e {
		t.Errorf("Parse(%.200q) = %v, %d, %d, want %v, %d, %d", text, gotL, gotLine, gotE, want, line, e)
	}
}

// P11.1: cycles and volumes at the ends of their ranges, beyond them, and at the ends of their type.
func TestCheckNumbers(t *testing.T) {
	expectValid(t, acme(), true)
	for _, n := range []int{0, 1, 999999, 1000000} {
		expectValid(t, withCycle(n), true)
	}
	for _, n := range []int{-1, -3, 1000001, 1 << 32, 1<<32 + 3, api.MaxNumber, math.MinInt, math.MaxInt} {
		expectValid(t, withCycle(n), false)
	}
	for _, n := range []int{1, 2, 1 << 32, api.MaxVolume - 1, api.MaxVolume} {
		expectValid(t, withVolume(n), true)
	}
	for _, n := range []int{0, -1, -50000, api.MaxVolume + 1, -api.MaxVolume, api.MaxNumber, math.MinInt, math.MaxInt} {
		expectValid(t, withVolume(n), false)
	}
	expectValid(t, api.Nomination{}, false)
}

// P11.1: each of the names, and what is none.
func TestCheckNames(t *testing.T) {
	for field := range 4 {
		for _, s := range []string{"a", "z", "tank-7", "z-", "abcdefghijkl", "nominate"} {
			expectValid(t, withName(field, s), true)
		}
		for _, s := range []string{"", "abcdefghijklm", "7a", "-a", "Acme", "a b", "a_b", "a\n", "#a", "é", strings.Repeat("a", 100000)} {
			expectValid(t, withName(field, s), false)
		}
	}
}

// P11.1: From and To are different; other names need not be.
func TestCheckEnds(t *testing.T) {
	expectValid(t, withName(2, "portb"), false)
	expectValid(t, withName(3, "porta"), false)
	expectValid(t, withName(3, "porta-"), true)
	expectValid(t, withName(3, "port"), true)
	for _, n := range []api.Nomination{
		withName(0, "diesel"),
		withName(0, "porta"),
		withName(0, "portb"),
		withName(1, "porta"),
		withName(1, "portb"),
		{Shipper: "a", Product: "a", From: "a", To: "b", Volume: 1},
		{Shipper: "b", Product: "b", From: "a", To: "b", Volume: 1},
	} {
		expectValid(t, n, true)
	}
}

// P11.1: the errors of lists, each alone and each before those behind it.
func TestCheckLists(t *testing.T) {
	bad := withVolume(0)
	full := table(api.MaxLines)
	for name, l := range map[string][]api.Nomination{
		"none":       nil,
		"empty":      {},
		"one":        table(1),
		"the same":   {acme(), acme()},
		"two of one": {acme(), withVolume(7)},
		"most":       full,
		"most alike": slices.Repeat([]api.Nomination{acme()}, api.MaxLines),
	} {
		if e := Check(l); e != api.OK {
			t.Errorf("%s: Check = %d", name, e)
		}
	}
	expectError(t, "one too many", table(api.MaxLines+1), api.ErrLimit)
	expectError(t, "very many", slices.Repeat([]api.Nomination{acme()}, 100000), api.ErrLimit)
	expectError(t, "too many, none valid", make([]api.Nomination, api.MaxLines+1), api.ErrLimit)
	expectError(t, "too many, the first not valid", slices.Concat([]api.Nomination{bad}, full), api.ErrLimit)
	expectError(t, "the first not valid", []api.Nomination{bad, acme()}, api.ErrInvalid)
	expectError(t, "one in the middle not valid", []api.Nomination{acme(), bad, acme()}, api.ErrInvalid)
	expectError(t, "the last not valid", append(table(api.MaxLines-1), bad), api.ErrInvalid)
	expectError(t, "none valid", make([]api.Nomination, api.MaxLines), api.ErrInvalid)
}
