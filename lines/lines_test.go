package lines

import (
	"math/rand"
	"slices"
	"strconv"
	"strings"
	"testing"

	"batchline/api"
)

// same reports whether two lists of lines have the same words.
func same(a, b [][]string) bool {
	return slices.EqualFunc(a, b, slices.Equal[[]string])
}

// times returns a text n times.
func times(s string, n int) string { return strings.Repeat(s, n) }

// P3.1: the examples of the chapter, comments, ends of lines, and lines of another form.
func TestSplitExamples(t *testing.T) {
	for _, x := range []struct {
		text string
		want [][]string
		e    api.Errno
	}{
		{"a 1\n# x\nb", [][]string{{"a", "1"}, {}, {"b"}}, api.OK},
		{"", nil, api.OK},
		{"\n", [][]string{{}}, api.OK},
		{"\n\n", [][]string{{}, {}}, api.OK},
		{"\na", [][]string{{}, {"a"}}, api.OK},
		{"a", [][]string{{"a"}}, api.OK},
		{"a\n", [][]string{{"a"}}, api.OK},
		{"a\n\n", [][]string{{"a"}, {}}, api.OK},
		{"#", [][]string{{}}, api.OK},
		{"#\n", [][]string{{}}, api.OK},
		{"#  a \x00\x7f\xff\r\t\nb", [][]string{{}, {"b"}}, api.OK},
		{"a # b#", [][]string{{"a", "#", "b#"}}, api.OK},
		{"a# #b", [][]string{{"a#", "#b"}}, api.OK},
		{"! ~", [][]string{{"!", "~"}}, api.OK},
		{"A-Z ... 007 -", [][]string{{"A-Z", "...", "007", "-"}}, api.OK},
		{"a  b", nil, api.ErrForm},
		{" a", nil, api.ErrForm},
		{"a ", nil, api.ErrForm},
		{" ", nil, api.ErrForm},
		{"  ", nil, api.ErrForm},
		{" #", nil, api.ErrForm},
		{" # a", nil, api.ErrForm},
		{"a\r\nb", nil, api.ErrForm},
		{"a\tb", nil, api.ErrForm},
		{"a\x00", nil, api.ErrForm},
		{"a\x1f", nil, api.ErrForm},
		{"a\x7f", nil, api.ErrForm},
		{"a\x80", nil, api.ErrForm},
		{"\xff", nil, api.ErrForm},
		{"a é", nil, api.ErrForm},
		{"a\n#\n\nb \nc", nil, api.ErrForm},
		{"a\n\n ", nil, api.ErrForm},
	} {
		if l, e := Split(x.text); !same(l, x.want) || e != x.e {
			t.Errorf("Split(%q) = %q, %d, want %q, %d", x.text, l, e, x.want, x.e)
		}
	}
}

// P3.1: each byte, in a word at the beginning of a line, in a later word, and in a comment.
func TestSplitBytes(t *testing.T) {
	for i := range 256 {
		c := string([]byte{byte(i)})
		fits := i >= 33 && i <= 126
		for text, ok := range map[string]bool{
			"a" + c + "b":      fits || c == " " || c == "\n",
			"x " + c + " y":    fits,
			"x\n" + c + "\ny":  fits || c == "\n",
			"x\n#" + c + "\ny": true,
		} {
			if l, e := Split(text); (e == api.OK) != ok || (e != api.OK) != (e == api.ErrForm) || e != api.OK && l != nil {
				t.Errorf("Split(%q) = %q, %d; accepted: want %v", text, l, e, ok)
			}
		}
	}
}

// P3.1: the limits and what is just beyond them, and which error comes first.
func TestSplitLimits(t *testing.T) {
	words := times("a ", api.MaxWords-1) + "a"
	full := times("a", api.MaxText)
	for _, x := range []struct {
		name, text string
		lines      int
		e          api.Errno
	}{
		{"most words", words, 1, api.OK},
		{"a word too many", "a " + words, 0, api.ErrForm},
		{"a word too many, below", "\n" + words + " b\n", 0, api.ErrForm},
		{"most bytes", full, 1, api.OK},
		{"most bytes, with an end", full[1:] + "\n", 1, api.OK},
		{"a byte too many", full + "a", 0, api.ErrLimit},
		{"an end too many", full + "\n", 0, api.ErrLimit},
		{"a comment too long", "#" + full, 0, api.ErrLimit},
		{"most lines", times("a\n", api.MaxLines), api.MaxLines, api.OK},
		{"most lines, without an end", times("a\n", api.MaxLines-1) + "a", api.MaxLines, api.OK},
		{"most empty lines", times("\n", api.MaxLines), api.MaxLines, api.OK},
		{"a line too many", times("a\n", api.MaxLines+1), 0, api.ErrLimit},
		{"a line too many, without an end", times("a\n", api.MaxLines) + "a", 0, api.ErrLimit},
		{"an empty line too many", times("\n", api.MaxLines+1), 0, api.ErrLimit},
		{"a comment too many", times("a\n", api.MaxLines) + "#", 0, api.ErrLimit},
		{"too many bytes before a form", " " + full, 0, api.ErrLimit},
		{"too many lines before a form", " \n" + times("\n", api.MaxLines), 0, api.ErrLimit},
		{"too many lines and a form behind them", times("\n", api.MaxLines) + " ", 0, api.ErrLimit},
		{"a form in the last line", times("\n", api.MaxLines-1) + " ", 0, api.ErrForm},
	} {
		if l, e := Split(x.text); len(l) != x.lines || e != x.e {
			t.Errorf("%s: %d lines, %d, want %d, %d", x.name, len(l), e, x.lines, x.e)
		}
	}
}

// reading is what a text is by the definition, read byte by byte.
func reading(text string) ([][]string, bool) {
	var lines [][]string
	var line []string
	word, comment, begun := "", false, false
	finish := func() bool {
		if !comment && begun {
			line = append(line, word)
		}
		lines = append(lines, line)
		ok := !slices.Contains(line, "") && len(line) <= api.MaxWords
		line, word, comment, begun = nil, "", false, false
		return ok
	}
	for i := 0; i < len(text); i++ {
		switch c := text[i]; {
		case c == '\n':
			if !finish() {
				return nil, false
			}
		case comment:
		case c == '#' && !begun:
			comment, begun = true, true
		case c == ' ':
			line, word, begun = append(line, word), "", true
		case c < 33 || c > 126:
			return nil, false
		default:
			word, begun = word+string(rune(c)), true
		}
	}
	if begun && !finish() {
		return nil, false
	}
	return lines, true
}

// cleaned returns an accepted text without its comments, and with a line feed at its end.
func cleaned(text string) string {
	if text == "" {
		return ""
	}
	lines := strings.Split(strings.TrimSuffix(text, "\n"), "\n")
	for i, l := range lines {
		if strings.HasPrefix(l, "#") {
			lines[i] = ""
		}
	}
	return strings.Join(lines, "\n") + "\n"
}

// expectReading checks Split of a text by the definition, and that Join gives back what is not in comments.
func expectReading(t *testing.T, text string) {
	t.Helper()
	want, ok := reading(text)
	l, e := Split(text)
	if !ok {
		if l != nil || e != api.ErrForm {
			t.Errorf("Split(%q) = %q, %d, want ErrForm", text, l, e)
		}
		return
	}
	if !same(l, want) || e != api.OK {
		t.Errorf("Split(%q) = %q, %d, want %q", text, l, e, want)
	}
	if s, e := Join(l); s != cleaned(text) || e != api.OK {
		t.Errorf("Join(%q) = %q, %d, want %q", l, s, e, cleaned(text))
	}
}

// P3.1, P3.3: all short texts of the bytes that matter, and long ones.
func TestTextsAreReadByTheDefinition(t *testing.T) {
	const letters = "a# \n"
	var extend func(text string, n int)
	extend = func(text string, n int) {
		expectReading(t, text)
		if n == 0 {
			return
		}
		for i := range letters {
			extend(text+letters[i:i+1], n-1)
		}
	}
	extend("", 7)
	r := rand.New(rand.NewSource(3))
	const often = "abc-019#!~  \n\n\n"
	for range 5000 {
		b := make([]byte, r.Intn(60))
		for i := range b {
			b[i] = often[r.Intn(len(often))]
		}
		expectReading(t, string(b))
		expectReading(t, strings.ReplaceAll(string(b), "  ", " x"))
	}
}

// P3.2: the examples of the chapter, the ends of the range, numbers of any size, and what is no number.
func TestNumber(t *testing.T) {
	for _, x := range []struct {
		s string
		n int
		e api.Errno
	}{
		{"0", 0, api.OK},
		{"1", 1, api.OK},
		{"-7", -7, api.OK},
		{"10", 10, api.OK},
		{"-90", -90, api.OK},
		{"9007199254740992", 1 << 53, api.OK},
		{"-9007199254740992", -1 << 53, api.OK},
		{"9007199254740993", 0, api.ErrRange},
		{"-9007199254740993", 0, api.ErrRange},
		{"9223372036854775807", 0, api.ErrRange},
		{"9223372036854775808", 0, api.ErrRange},
		{"-9223372036854775808", 0, api.ErrRange},
		{"-9223372036854775809", 0, api.ErrRange},
		{"18446744073709551616", 0, api.ErrRange},
		{"18446744073709551617", 0, api.ErrRange},
		{"1" + times("0", 100000), 0, api.ErrRange},
		{"-" + times("9", 100000), 0, api.ErrRange},
		{times("9", 100000) + "x", 0, api.ErrForm},
		{times("0", 100), 0, api.ErrForm},
		{"", 0, api.ErrForm},
		{"-", 0, api.ErrForm},
		{"--1", 0, api.ErrForm},
		{"-0", 0, api.ErrForm},
		{"00", 0, api.ErrForm},
		{"05", 0, api.ErrForm},
		{"-05", 0, api.ErrForm},
		{"+1", 0, api.ErrForm},
		{"+0", 0, api.ErrForm},
		{"1-", 0, api.ErrForm},
		{"1 ", 0, api.ErrForm},
		{" 1", 0, api.ErrForm},
		{"1\n", 0, api.ErrForm},
		{"1_000", 0, api.ErrForm},
		{"0x10", 0, api.ErrForm},
		{"1e3", 0, api.ErrForm},
		{"1.0", 0, api.ErrForm},
		{"a", 0, api.ErrForm},
		{"1\x00", 0, api.ErrForm},
		{"١", 0, api.ErrForm},
	} {
		if n, e := Number(x.s); n != x.n || e != x.e {
			t.Errorf("Number(%.40q) = %d, %d, want %d, %d", x.s, n, e, x.n, x.e)
		}
	}
}

// P3.2: numbers as they are written are read; with a zero before them, or a plus, they are none.
func TestNumbersAreRead(t *testing.T) {
	r := rand.New(rand.NewSource(4))
	for i := range 20000 {
		n := i - 10000
		if i%2 == 0 {
			n = (r.Int() & (1<<53 - 1)) >> r.Intn(53)
		}
		s := strconv.Itoa(n)
		if m, e := Number(s); m != n || e != api.OK {
			t.Errorf("Number(%q) = %d, %d", s, m, e)
		}
		for _, bad := range []string{"0" + s, "+" + s, s + " ", "-0" + s} {
			if m, e := Number(bad); m != 0 || e != api.ErrForm {
				t.Errorf("Number(%q) = %d, %d, want ErrForm", bad, m, e)
			}
		}
	}
}

// P3.2: each byte alone, behind a digit, and behind a minus.
func TestNumberBytes(t *testing.T) {
	for i := range 256 {
		c := string([]byte{byte(i)})
		digit := strings.Contains("0123456789", c)
		for s, ok := range map[string]bool{c: digit, "1" + c: digit, "-" + c: digit && c != "0", "1" + c + "1": digit} {
			if _, e := Number(s); (e == api.OK) != ok {
				t.Errorf("Number(%q): error %d; a number: %v", s, e, ok)
			}
		}
	}
}

// P3.2: the examples of the chapter, the longest name, and each byte at the beginning of a name and behind it.
func TestName(t *testing.T) {
	for s, want := range map[string]bool{
		"tank-7": true, "7": false, "A": false, "": false,
		"a": true, "z": true, "a-": true, "a--": true, "-": false, "-a": false, "7a": false, "a7": true, "aB": false, "a b": false, " a": false, "a ": false, "a_": false, "a\n": false, "é": false, "aé": false,
		times("a", api.MaxName):          true,
		times("a", api.MaxName+1):        false,
		"z" + times("9", api.MaxName-1):  true,
		"z" + times("-", api.MaxName):    false,
		times("a", 100000):               false,
		times("a", api.MaxName-1) + "A":  false,
		times("a", api.MaxName-1) + "\n": false,
	} {
		if got := Name(s); got != want {
			t.Errorf("Name(%.40q) = %v, want %v", s, got, want)
		}
	}
	const letters = "abcdefghijklmnopqrstuvwxyz"
	for i := range 256 {
		c := string([]byte{byte(i)})
		if got, want := Name(c+"a"), strings.Contains(letters, c); got != want {
			t.Errorf("Name(%q) = %v", c+"a", got)
		}
		if got, want := Name("a"+c), strings.Contains(letters+"0123456789-", c); got != want {
			t.Errorf("Name(%q) = %v", "a"+c, got)
		}
	}
}

// P3.3: ordinary lines, empty ones, and words and lines that are none.
func TestJoin(t *testing.T) {
	words := slices.Repeat([]string{"a"}, api.MaxWords)
	for _, x := range []struct {
		l    [][]string
		want string
		e    api.Errno
	}{
		{nil, "", api.OK},
		{[][]string{}, "", api.OK},
		{[][]string{nil}, "\n", api.OK},
		{[][]string{{}, nil}, "\n\n", api.OK},
		{[][]string{{"a", "1"}, {}, {"b"}}, "a 1\n\nb\n", api.OK},
		{[][]string{{"a", "#", "#b"}}, "a # #b\n", api.OK},
		{[][]string{{"!", "~"}}, "! ~\n", api.OK},
		{[][]string{words}, times("a ", api.MaxWords-1) + "a\n", api.OK},
		{[][]string{append(words, "a")}, "", api.ErrForm},
		{[][]string{{"a"}, append(words, "")}, "", api.ErrForm},
		{[][]string{{""}}, "", api.ErrForm},
		{[][]string{{"a", ""}}, "", api.ErrForm},
		{[][]string{{"#"}}, "", api.ErrForm},
		{[][]string{{"#a", "b"}}, "", api.ErrForm},
		{[][]string{{"a"}, {}, {"#a"}}, "", api.ErrForm},
		{[][]string{{"a b"}}, "", api.ErrForm},
		{[][]string{{"a", "b\n"}}, "", api.ErrForm},
		{[][]string{{" "}}, "", api.ErrForm},
		{[][]string{{"\x7f"}}, "", api.ErrForm},
		{[][]string{{"a\x80"}}, "", api.ErrForm},
		{[][]string{{"é"}}, "", api.ErrForm},
	} {
		if s, e := Join(x.l); s != x.want || e != x.e {
			t.Errorf("Join(%q) = %q, %d, want %q, %d", x.l, s, e, x.want, x.e)
		}
	}
	for i := range 256 {
		c := string([]byte{byte(i)})
		fits := i >= 33 && i <= 126
		for at, ok := range []bool{fits && c != "#", fits} {
			l := [][]string{{"a", "b"}}
			l[0][at] = c
			if _, e := Join(l); (e == api.OK) != ok || (e != api.OK) != (e == api.ErrForm) {
				t.Errorf("Join(%q): error %d; accepted: want %v", l, e, ok)
			}
		}
	}
}

// P3.3: the limits and what is just beyond them, and which error comes first.
func TestJoinLimits(t *testing.T) {
	line := func(n int) []string { return []string{times("a", n)} }
	empty := make([][]string, api.MaxLines)
	pairs := slices.Repeat([][]string{{times("a", 20), times("b", 20)}}, api.MaxLines)
	for _, x := range []struct {
		name string
		l    [][]string
		size int
		e    api.Errno
	}{
		{"most lines", empty, api.MaxLines, api.OK},
		{"a line too many", append(empty, nil), 0, api.ErrLimit},
		{"a line too many before a form", append(empty, []string{""}), 0, api.ErrLimit},
		{"a form before a line too many", append([][]string{{""}}, empty...), 0, api.ErrLimit},
		{"most bytes", [][]string{line(api.MaxText - 1)}, api.MaxText, api.OK},
		{"a byte too many", [][]string{line(api.MaxText)}, 0, api.ErrLimit},
		{"most bytes and an empty line", [][]string{{}, line(api.MaxText - 2)}, api.MaxText, api.OK},
		{"an empty line too many", [][]string{line(api.MaxText - 1), {}}, 0, api.ErrLimit},
		{"most bytes in words", [][]string{append(line(api.MaxText-4), "b"), {}}, api.MaxText, api.OK},
		{"a space too many", [][]string{append(line(api.MaxText-3), "b"), {}}, 0, api.ErrLimit},
		{"ordinary lines, too many bytes", pairs, 0, api.ErrLimit},
		{"ordinary lines", pairs[:390], 390 * 42, api.OK},
		{"a form before too many bytes", [][]string{line(api.MaxText), {"", "b"}}, 0, api.ErrForm},
		{"a form in a text too long", [][]string{{"#" + times("a", api.MaxText)}}, 0, api.ErrForm},
		{"the same long word in each place", slices.Repeat([][]string{slices.Repeat(line(100000), api.MaxWords)}, 100), 0, api.ErrLimit},
	} {
		s, e := Join(x.l)
		if len(s) != x.size || e != x.e {
			t.Errorf("%s: %d bytes, %d, want %d, %d", x.name, len(s), e, x.size, x.e)
		}
		if e != api.OK {
			continue
		}
		if l, e := Split(s); !same(l, x.l) || e != api.OK {
			t.Errorf("%s: Split(Join) differs, %d", x.name, e)
		}
	}
}

// P3.3: Split(Join(l)) is l, for lines of words of all bytes that words can have.
func TestLinesAreReadAsWritten(t *testing.T) {
	r := rand.New(rand.NewSource(5))
	for range 3000 {
		l := make([][]string, r.Intn(9))
		for i := range l {
			l[i] = make([]string, r.Intn(api.MaxWords+1))
			for k := range l[i] {
				b := make([]byte, 1+r.Intn(5))
				for at := range b {
					b[at] = byte(36 + r.Intn(91))
				}
				if k > 0 {
					b[0] = byte(33 + r.Intn(94))
				}
				l[i][k] = string(b)
			}
		}
		s, e := Join(l)
		if e != api.OK {
			t.Fatalf("Join(%q): error %d", l, e)
		}
		if got, e := Split(s); !same(got, l) || e != api.OK {
			t.Errorf("Split(%q) = %q, %d, want %q", s, got, e, l)
		}
	}
}

// R2: Join leaves its argument as it is, and the lines that Split returns share no memory.
func TestMemory(t *testing.T) {
	words := []string{"a", "b", "c"}
	l := [][]string{words[:1], words[:2], {"d"}}
	if s, e := Join(l[:2]); s != "a\na b\n" || e != api.OK {
		t.Errorf("Join = %q, %d", s, e)
	}
	if !slices.Equal(words, []string{"a", "b", "c"}) || !same(l, [][]string{{"a"}, {"a", "b"}, {"d"}}) {
		t.Errorf("Join changed its argument: %q", l)
	}
	x, _ := Split("a b\nc\na b\n\nd")
	y, _ := Split("a b\nc\na b\n\nd")
	for i := range x {
		grown := append(x[i], "z")
		for k := range grown {
			grown[k] = "z"
		}
		for k := range x[i] {
			x[i][k] = "z"
		}
		for k := i + 1; k < len(x); k++ {
			if !slices.Equal(x[k], y[k]) {
				t.Errorf("the lines %d and %d share memory: %q", i, k, x)
			}
		}
	}
	if !same(y, [][]string{{"a", "b"}, {"c"}, {"a", "b"}, {}, {"d"}}) {
		t.Errorf("two results share memory: %q", y)
	}
}
