package nomination

import (
	"math/rand"
	"slices"
	"strings"
	"testing"

	"batchline/api"
)

// P11.2: the example of the chapter, comments, the ends of lines, and nominations that are there twice.
func TestParse(t *testing.T) {
	one := []api.Nomination{acme()}
	line := "nominate 3 acme diesel porta portb 50000"
	expectParse(t, line+"\n", one, 0, api.OK)
	expectParse(t, line, one, 0, api.OK)
	expectParse(t, "\n# a\n"+line+"\n\n#\n", one, 0, api.OK)
	expectParse(t, "#"+line+"\n"+line+"\n#"+line, one, 0, api.OK)
	expectParse(t, "", nil, 0, api.OK)
	expectParse(t, "\n", nil, 0, api.OK)
	expectParse(t, "# nominate a 1\n\n", nil, 0, api.OK)
	expectParse(t, line+"\n"+line, []api.Nomination{acme(), acme()}, 0, api.OK)
	expectParse(t, "nominate 1000000 nominate a b c 1099511627776\n#\nnominate 0 a a a-7 b 1",
		[]api.Nomination{{Shipper: "nominate", Product: "a", From: "b", To: "c", Cycle: 1000000, Volume: api.MaxVolume}, {Shipper: "a", Product: "a", From: "a-7", To: "b", Volume: 1}}, 0, api.OK)
	full := table(api.MaxLines)
	expectParse(t, textOf(full...), full, 0, api.OK)
	turned := table(api.MaxLines)
	slices.Reverse(turned)
	expectParse(t, strings.TrimSuffix(textOf(turned...), "\n"), turned, 0, api.OK)
}

// P11.2: lines that are not of the form.
func TestParseForm(t *testing.T) {
	for _, line := range []string{
		"nominate 3 acme diesel porta portb",
		"nominate 3 acme diesel porta portb 50000 1",
		"nominate 3 acme diesel porta portb 50000 #",
		"nominate acme diesel porta portb 50000",
		"3 acme diesel porta portb 50000",
		"nominate 3 acme diesel porta 50000",
		"nominate",
		"x",
		"a a a a a a a a a a a a a a a a",
		"Nominate 3 acme diesel porta portb 50000",
		"nominates 3 acme diesel porta portb 50000",
		"nominat 3 acme diesel porta portb 50000",
		"3 nominate acme diesel porta portb 50000",
		"nomination 3 acme diesel porta portb 50000",
		"nominate x acme diesel porta portb 50000",
		"nominate 3 acme diesel porta portb x",
		"nominate acme 3 diesel porta portb 50000",
		"nominate 3 acme diesel porta 50000 portb",
		"nominate 03 acme diesel porta portb 50000",
		"nominate +3 acme diesel porta portb 50000",
		"nominate -0 acme diesel porta portb 50000",
		"nominate - acme diesel porta portb 50000",
		"nominate 3 acme diesel porta portb 050000",
		"nominate 3 acme diesel porta portb +50000",
		"nominate 3 acme diesel porta portb -0",
		"nominate 3 acme diesel porta portb 50000.0",
		"nominate 3 acme diesel porta portb 0x7",
		// Numbers that are too great are none.
		"nominate 9007199254740993 acme diesel porta portb 50000",
		"nominate -9007199254740993 acme diesel porta portb 50000",
		"nominate 18446744073709551619 acme diesel porta portb 50000",
		"nominate 3 acme diesel porta portb 9007199254740993",
		"nominate 3 acme diesel porta portb -9007199254740993",
		"nominate 3 acme diesel porta portb 18446744073709601616",
		// A form comes before what is not valid.
		"nominate 3 Acme diesel porta portb x",
		"nominate 3 acme diesel porta porta x",
		"nominate -1 acme diesel porta portb x",
		"nominate x acme diesel porta portb 0",
		"nominate 3 7 diesel porta portb",
	} {
		expectParse(t, line, nil, 1, api.ErrForm)
		expectParse(t, "\n# a\n"+textOf(table(2)...)+line+"\n", nil, 5, api.ErrForm)
	}
}

// P11.2: nominations that are not valid, in lines of the form.
func TestParseInvalid(t *testing.T) {
	for _, n := range []int{-1, 1000001, api.MaxNumber, -api.MaxNumber} {
		expectParse(t, lineOf(withCycle(n)), nil, 1, api.ErrInvalid)
	}
	for _, n := range []int{0, -1, api.MaxVolume + 1, api.MaxNumber, -api.MaxNumber} {
		expectParse(t, "#\n"+lineOf(withVolume(n))+"\n", nil, 2, api.ErrInvalid)
	}
	for field := range 4 {
		for _, s := range []string{"Acme", "7", "-", "a_b", "abcdefghijklm", "a#", "#", strings.Repeat("a", 1000)} {
			expectParse(t, lineOf(acme())+"\n\n"+lineOf(withName(field, s)), nil, 3, api.ErrInvalid)
		}
	}
	expectParse(t, "nominate 3 acme diesel porta porta 50000", nil, 1, api.ErrInvalid)
	expectParse(t, textOf(table(api.MaxLines-1)...)+lineOf(withVolume(0)), nil, api.MaxLines, api.ErrInvalid)
}

// P11.2: the errors of a text come before those of its lines, and those of a line before those of the next one.
func TestParseOrder(t *testing.T) {
	good, bad := textOf(acme()), lineOf(withVolume(0))
	for _, x := range []struct {
		name, text string
		line       int
		e          api.Errno
	}{
		{"a text too long", "#" + strings.Repeat("a", api.MaxText), 0, api.ErrLimit},
		{"a text too long before a form", "x\n#" + strings.Repeat("a", api.MaxText), 0, api.ErrLimit},
		{"too many lines", strings.Repeat("\n", api.MaxLines+1), 0, api.ErrLimit},
		{"too many nominations", textOf(table(api.MaxLines + 1)...), 0, api.ErrLimit},
		{"too many lines before a form", "x\n" + strings.Repeat("\n", api.MaxLines), 0, api.ErrLimit},
		{"a space too many", "nominate  3 acme diesel porta portb 50000", 0, api.ErrForm},
		{"a space at the end", "\n" + lineOf(acme()) + " ", 0, api.ErrForm},
		{"a space at the beginning", " " + good, 0, api.ErrForm},
		{"a carriage return", lineOf(acme()) + "\r\n", 0, api.ErrForm},
		{"a tab", "nominate\t3 acme diesel porta portb 50000", 0, api.ErrForm},
		{"17 words", strings.Repeat("a ", api.MaxWords) + "a", 0, api.ErrForm},
		{"a letter with a mark", "nominate 3 acmé diesel porta portb 50000", 0, api.ErrForm},
		{"a wrong line behind a line of another form", "x\n" + bad + "\n \n", 0, api.ErrForm},
		{"a wrong line behind one that is not valid", bad + "\n\n ", 0, api.ErrForm},
		{"form, then not valid", good + "x\n" + bad, 2, api.ErrForm},
		{"not valid, then form", good + bad + "\nx", 2, api.ErrInvalid},
		{"not valid, then not valid", good + bad + "\n" + bad, 2, api.ErrInvalid},
		{"behind good ones", good + good + "\n#\n" + good + bad, 6, api.ErrInvalid},
		{"before good ones", bad + "\n" + good, 1, api.ErrInvalid},
	} {
		if l, line, e := Parse(x.text); len(l) != 0 || line != x.line || e != x.e {
			t.Errorf("%s: Parse = %v, %d, %d, want the error %d in line %d", x.name, l, line, e, x.e, x.line)
		}
	}
}

// P11.2: the texts of nominations.
func TestFormat(t *testing.T) {
	for _, x := range []struct {
		l    []api.Nomination
		want string
	}{
		{nil, ""},
		{[]api.Nomination{}, ""},
		{[]api.Nomination{acme()}, "nominate 3 acme diesel porta portb 50000\n"},
		{[]api.Nomination{acme(), {Shipper: "z", Product: "y", From: "x", To: "w", Volume: api.MaxVolume}, acme()},
			"nominate 3 acme diesel porta portb 50000\nnominate 0 z y x w 1099511627776\nnominate 3 acme diesel porta portb 50000\n"},
		{table(api.MaxLines), textOf(table(api.MaxLines)...)},
	} {
		if got, e := Format(x.l); got != x.want || e != api.OK {
			t.Errorf("Format(%v) = %.200q, %d, want %.200q", x.l, got, e, x.want)
		}
	}
}

// P11.2: a text of MaxText bytes, and one byte more; the error of Check comes before it.
func TestFormatLimit(t *testing.T) {
	long := api.Nomination{Shipper: "abcdefghijkl", Product: "abcdefghijkl", From: "abcdefghijkl", To: "abcdefghijk-", Cycle: 1000000, Volume: api.MaxVolume}
	l := slices.Repeat([]api.Nomination{long}, 197)
	last := api.Nomination{Shipper: "abcdefg", Product: "a", From: "a", To: "b", Cycle: 1000000, Volume: 1}
	text, e := Format(append(l, last))
	if len(text) != api.MaxText || e != api.OK {
		t.Fatalf("Format has %d bytes, and the error %d", len(text), e)
	}
	expectParse(t, text, append(l, last), 0, api.OK)
	last.Volume = 10
	for _, l := range [][]api.Nomination{append(l, last), append([]api.Nomination{last}, l...), slices.Repeat([]api.Nomination{long}, api.MaxLines)} {
		if text, e := Format(l); text != "" || e != api.ErrLimit {
			t.Errorf("Format has %d bytes, and the error %d, want %d", len(text), e, api.ErrLimit)
		}
		if e := Check(l); e != api.OK {
			t.Errorf("Check = %d", e)
		}
	}
	last.Volume = 0
	expectError(t, "a text too long, and one not valid", append(l, long, long, last), api.ErrInvalid)
}

// anyNomination is a valid nomination, whose names and numbers are often the same.
func anyNomination(r *rand.Rand) api.Nomination {
	names := []string{"a", "aa", "a-", "a0", "b", "ba", "b-b"}
	ends := r.Perm(len(names))
	return api.Nomination{
		Shipper: names[r.Intn(3)],
		Product: names[r.Intn(3)],
		From:    names[ends[0]],
		To:      names[ends[1]],
		Cycle:   []int{0, 2, 10, 1000000}[r.Intn(4)],
		Volume:  []int{1, 2, 10, 1 + r.Intn(api.MaxVolume/api.MaxLines)}[r.Intn(4)],
	}
}

// anyList is valid nominations, at most as many as have a text for sure.
func anyList(r *rand.Rand) []api.Nomination {
	l := make([]api.Nomination, r.Intn(201))
	for i := range l {
		l[i] = anyNomination(r)
	}
	return l
}

// P11.2: what Format wrote is read, and comments between the lines change only the numbers of lines.
func TestNominationsAreReadAsWritten(t *testing.T) {
	r := rand.New(rand.NewSource(11))
	for range 500 {
		l := anyList(r)
		text, e := Format(l)
		if e != api.OK || text != textOf(l...) {
			t.Fatalf("Format(%v) = %q, %d", l, text, e)
		}
		expectParse(t, text, l, 0, api.OK)
		var b strings.Builder
		for _, line := range strings.SplitAfter(text, "\n") {
			if r.Intn(3) == 0 {
				b.WriteString([]string{"\n", "#\n", "# a  \x00\n"}[r.Intn(3)])
			}
			b.WriteString(line)
		}
		commented := b.String()
		expectParse(t, commented, l, 0, api.OK)
		expectParse(t, commented+"x", nil, strings.Count(commented, "\n")+1, api.ErrForm)
	}
}
