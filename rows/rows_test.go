package rows

import (
	"slices"
	"strings"
	"testing"

	"batchline/api"
)

// The lines with words, in order, and no comments.
func TestEachTakesLines(t *testing.T) {
	for _, x := range []struct {
		text string
		want [][]string
	}{
		{"", nil},
		{"\n#\n\n", nil},
		{"a 1", [][]string{{"a", "1"}}},
		{"a 1\n# x\nb", [][]string{{"a", "1"}, {"b"}}},
		{"\n\na\na\n#a\nb #\n", [][]string{{"a"}, {"a"}, {"b", "#"}}},
	} {
		var got [][]string
		line, e := Each(x.text, func(words []string) api.Errno {
			got = append(got, words)
			return api.OK
		})
		if !slices.EqualFunc(got, x.want, slices.Equal[[]string]) || line != 0 || e != api.OK {
			t.Errorf("Each(%q): %v, %d, %d, want %v", x.text, got, line, e, x.want)
		}
	}
}

// The first error ends it, with the number of the line; comments are counted.
func TestEachStopsAtErrors(t *testing.T) {
	for _, x := range []struct {
		text  string
		line  int
		taken int
	}{
		{"x", 1, 1},
		{"a\nb\nx\nc\nx", 3, 3},
		{"\n# x\na\n\nx\nx", 5, 2},
		{strings.Repeat("#\n", api.MaxLines-1) + "x", api.MaxLines, 1},
	} {
		taken := 0
		line, e := Each(x.text, func(words []string) api.Errno {
			taken++
			if words[0] == "x" {
				return api.ErrTwice
			}
			return api.OK
		})
		if line != x.line || e != api.ErrTwice || taken != x.taken {
			t.Errorf("Each(%.100q): %d, %d after %d lines, want line %d after %d", x.text, line, e, taken, x.line, x.taken)
		}
	}
}

// The errors of the text as a whole come before all of its lines.
func TestEachTextErrors(t *testing.T) {
	for text, want := range map[string]api.Errno{
		"a\nb ": api.ErrForm,
		"a\n#" + strings.Repeat("a", api.MaxText): api.ErrLimit,
		strings.Repeat("a\n", api.MaxLines+1):     api.ErrLimit,
	} {
		line, e := Each(text, func(words []string) api.Errno {
			t.Errorf("%.100q: %v was taken", text, words)
			return api.ErrTwice
		})
		if line != 0 || e != want {
			t.Errorf("Each(%.100q): %d, %d, want 0, %d", text, line, e, want)
		}
	}
}
