package product

import (
	"math"
	"math/rand"
	"slices"
	"strconv"
	"strings"
	"testing"

	"batchline/api"
)

// ranges are the least and the greatest number of each field, as the chapter says them.
var ranges = [4][2]int{{400, 1200}, {0, 2000}, {0, 5000}, {1, 2000}}

// diesel is the product of the chapter's example.
func diesel() api.Product {
	return api.Product{Name: "diesel", Density: 840, Expansion: 830, Compress: 800, Friction: 1200}
}

// named is a valid product with a name.
func named(name string) api.Product {
	p := diesel()
	p.Name = name
	return p
}

// table is n valid products with different names.
func table(n int) []api.Product {
	l := make([]api.Product, n)
	for i := range l {
		l[i] = api.Product{Name: "p" + strconv.Itoa(i), Density: 400 + i, Expansion: i, Compress: 2 * i, Friction: 1 + i}
	}
	return l
}

// with is diesel with the field of this index changed.
func with(field, n int) api.Product {
	p := diesel()
	*[]*int{&p.Density, &p.Expansion, &p.Compress, &p.Friction}[field] = n
	return p
}

// lineOf is the line of a product, valid or not, without its end.
func lineOf(p api.Product) string {
	return "product " + p.Name + " " + strconv.Itoa(p.Density) + " " + strconv.Itoa(p.Expansion) + " " + strconv.Itoa(p.Compress) + " " + strconv.Itoa(p.Friction)
}

// textOf is the lines of products, valid or not.
func textOf(l ...api.Product) string {
	text := ""
	for _, p := range l {
		text += lineOf(p) + "\n"
	}
	return text
}

// expectValid checks Valid of a product, and what Check, Parse and Format say of a table of it alone.
func expectValid(t *testing.T, p api.Product, want bool) {
	t.Helper()
	if got := Valid(p); got != want {
		t.Errorf("Valid(%+v) = %v, want %v", p, got, want)
	}
	wantE := api.OK
	if !want {
		wantE = api.ErrInvalid
	}
	if e := Check([]api.Product{p}); e != wantE {
		t.Errorf("Check of %+v = %d, want %d", p, e, wantE)
	}
	if _, e := Format([]api.Product{p}); e != wantE {
		t.Errorf("Format of %+v: error %d, want %d", p, e, wantE)
	}
}

// P4.1: each number at the ends of its range, beyond them, and at the ends of its type.
func TestValidNumbers(t *testing.T) {
	expectValid(t, diesel(), true)
	for field, r := range ranges {
		for _, n := range []int{r[0], r[0] + 1, (r[0] + r[1]) / 2, r[1] - 1, r[1]} {
			expectValid(t, with(field, n), true)
		}
		for _, n := range []int{r[0] - 1, r[1] + 1, -r[1], -1, 1 << 32, 1<<32 + r[0], 1<<53 + r[0], math.MinInt, math.MaxInt} {
			expectValid(t, with(field, n), false)
		}
	}
	expectValid(t, api.Product{Name: "a", Density: 400, Friction: 1}, true)
	expectValid(t, api.Product{Name: "a", Density: 1200, Expansion: 2000, Compress: 5000, Friction: 2000}, true)
	expectValid(t, api.Product{}, false)
	expectValid(t, api.Product{Name: "a"}, false)
}

// P4.1: each number of each field by the definition.
func TestValidEachNumber(t *testing.T) {
	for field, r := range ranges {
		for n := -10; n <= 6000; n++ {
			if got, want := Valid(with(field, n)), r[0] <= n && n <= r[1]; got != want {
				t.Errorf("Valid(%+v) = %v", with(field, n), got)
			}
		}
	}
}

// P4.1: names, and what is none.
func TestValidNames(t *testing.T) {
	for name, want := range map[string]bool{
		"a": true, "diesel-10": true, "z-": true, "abcdefghijkl": true,
		"": false, "abcdefghijklm": false, "7a": false, "-a": false, "Diesel": false, "a b": false, "a_b": false, "a\n": false, "#a": false, "é": false,
	} {
		expectValid(t, named(name), want)
	}
}

// P4.1: the errors of a table, each alone and each before those behind it.
func TestCheck(t *testing.T) {
	bad := with(0, 399)
	full, more := table(api.MaxProducts), table(api.MaxProducts+1)
	same := api.Product{Name: "p0", Density: 1000, Friction: 5}
	for _, x := range []struct {
		name string
		l    []api.Product
		want api.Errno
	}{
		{"none", nil, api.OK},
		{"empty", []api.Product{}, api.OK},
		{"one", table(1), api.OK},
		{"equal but for their names", []api.Product{named("a"), named("b"), named("a-")}, api.OK},
		{"most", full, api.OK},
		{"one too many", more, api.ErrLimit},
		{"too many, none valid", make([]api.Product, api.MaxProducts+1), api.ErrLimit},
		{"too many, the first not valid", append([]api.Product{bad}, full...), api.ErrLimit},
		{"too many, the same", slices.Repeat([]api.Product{diesel()}, api.MaxProducts+1), api.ErrLimit},
		{"very many", slices.Repeat([]api.Product{diesel()}, 100000), api.ErrLimit},
		{"the first not valid", []api.Product{bad, named("a")}, api.ErrInvalid},
		{"the last not valid", append(table(api.MaxProducts-1), bad), api.ErrInvalid},
		{"two the same, both not valid", []api.Product{bad, bad}, api.ErrInvalid},
		{"one not valid before two the same", []api.Product{bad, named("a"), named("a")}, api.ErrInvalid},
		{"one not valid behind two the same", []api.Product{named("a"), named("a"), bad}, api.ErrInvalid},
		{"one not valid with the name of another", []api.Product{named("diesel"), bad}, api.ErrInvalid},
		{"two the same", []api.Product{diesel(), diesel()}, api.ErrTwice},
		{"two with a name", []api.Product{table(1)[0], same}, api.ErrTwice},
		{"the first and the last", append(table(api.MaxProducts-1), same), api.ErrTwice},
		{"the last two", []api.Product{named("a"), named("b"), named("c"), named("c")}, api.ErrTwice},
		{"all the same", slices.Repeat([]api.Product{diesel()}, api.MaxProducts), api.ErrTwice},
	} {
		if e := Check(x.l); e != x.want {
			t.Errorf("%s: Check = %d, want %d", x.name, e, x.want)
		}
		text, e := Format(x.l)
		if e != x.want || e != api.OK && text != "" {
			t.Errorf("%s: Format = %q, %d, want the error %d", x.name, text, e, x.want)
		}
	}
}

// P4.1: the first product with a name, in any list.
func TestFind(t *testing.T) {
	long := append(table(40), named("p3"))
	bad := []api.Product{{Name: "A b"}, {}, with(0, 1)}
	for _, x := range []struct {
		l    []api.Product
		name string
		want int
	}{
		{nil, "a", -1},
		{nil, "", -1},
		{[]api.Product{diesel()}, "diesel", 0},
		{[]api.Product{diesel()}, "diese", -1},
		{[]api.Product{diesel()}, "diesel-", -1},
		{[]api.Product{diesel()}, "Diesel", -1},
		{[]api.Product{diesel()}, "", -1},
		{[]api.Product{named("b"), named("a"), named("c"), named("a")}, "a", 1},
		{[]api.Product{named("b"), named("a"), named("c")}, "c", 2},
		{[]api.Product{named("b"), named("a"), named("c")}, "d", -1},
		{table(api.MaxProducts), "p15", 15},
		{table(api.MaxProducts), "p16", -1},
		{long, "p3", 3},
		{long, "p39", 39},
		{bad, "A b", 0},
		{bad, "", 1},
		{bad, "diesel", 2},
	} {
		if got := Find(x.l, x.name); got != x.want {
			t.Errorf("Find(%v, %q) = %d, want %d", x.l, x.name, got, x.want)
		}
	}
}

// expectParse checks all results of Parse.
func expectParse(t *testing.T, text string, want []api.Product, line int, e api.Errno) {
	t.Helper()
	if gotL, gotLine, gotE := Parse(text); !slices.Equal(gotL, want) || gotLine != line || gotE != e {
		t.Errorf("Parse(%.200q) = %v, %d, %d, want %v, %d, %d", text, gotL, gotLine, gotE, want, line, e)
	}
}

// P4.2: the examples of the chapter, comments, and the ends of lines.
func TestParse(t *testing.T) {
	d := []api.Product{diesel()}
	line := "product diesel 840 830 800 1200"
	expectParse(t, line+"\n", d, 0, api.OK)
	expectParse(t, line, d, 0, api.OK)
	expectParse(t, "\n# a\n"+line+"\n\n#\n", d, 0, api.OK)
	expectParse(t, "#"+line+"\n"+line+"\n#"+line, d, 0, api.OK)
	expectParse(t, "", nil, 0, api.OK)
	expectParse(t, "\n", nil, 0, api.OK)
	expectParse(t, "# product a 1\n\n", nil, 0, api.OK)
	expectParse(t, "product product 400 0 0 1\n#\nproduct p-2 1200 2000 5000 2000",
		[]api.Product{{Name: "product", Density: 400, Friction: 1}, {Name: "p-2", Density: 1200, Expansion: 2000, Compress: 5000, Friction: 2000}}, 0, api.OK)
	full := table(api.MaxProducts)
	expectParse(t, textOf(full...), full, 0, api.OK)
	expectParse(t, strings.Repeat("#\n", api.MaxLines-api.MaxProducts)+textOf(full...), full, 0, api.OK)
}

// P4.2: lines that are not of the form.
func TestParseForm(t *testing.T) {
	for _, line := range []string{
		"product diesel 840 830 800",
		"product diesel 840 830 800 1200 1",
		"product diesel 840 830 800 1200 #",
		"product 840 830 800 1200",
		"product",
		"x",
		"product diesel",
		"Product diesel 840 830 800 1200",
		"products diesel 840 830 800 1200",
		"diesel product 840 830 800 1200",
		"840 diesel 840 830 800 1200",
		"product diesel x 830 800 1200",
		"product diesel 840 x 800 1200",
		"product diesel 840 830 x 1200",
		"product diesel 840 830 800 x",
		"product diesel 0840 830 800 1200",
		"product diesel 840 +830 800 1200",
		"product diesel 840 830 -0 1200",
		"product diesel 840 830 800 1200.0",
		"product diesel 9007199254740993 830 800 1200",
		"product diesel 840 -9007199254740993 800 1200",
		"product diesel 840 830 99999999999999999999 1200",
		"product diesel 840 830 800 18446744073709552816",
		// A form comes before what is not valid.
		"product Diesel 840 830 800 x",
		"product diesel 1 830 800 x",
		"product 7 84",
	} {
		expectParse(t, line, nil, 1, api.ErrForm)
		expectParse(t, "\n# a\n"+textOf(table(2)...)+line+"\n", nil, 5, api.ErrForm)
	}
}

// P4.2: products that are not valid, in lines of the form.
func TestParseInvalid(t *testing.T) {
	expectParse(t, "product diesel 84 830 800 1200", nil, 1, api.ErrInvalid)
	for field, r := range ranges {
		for _, n := range []int{r[0], r[1]} {
			expectParse(t, lineOf(with(field, n)), []api.Product{with(field, n)}, 0, api.OK)
		}
		for _, n := range []int{r[0] - 1, r[1] + 1, -r[1], api.MaxNumber, -api.MaxNumber} {
			expectParse(t, lineOf(with(field, n)), nil, 1, api.ErrInvalid)
		}
	}
	for _, name := range []string{"Diesel", "7", "-", "a_b", "abcdefghijklm", "a#", "840", strings.Repeat("a", 1000)} {
		expectParse(t, "\n"+lineOf(named(name)), nil, 2, api.ErrInvalid)
	}
	expectParse(t, "product abcdefghijkl 840 830 800 1200", []api.Product{named("abcdefghijkl")}, 0, api.OK)
}

// P4.2: names that are there twice, also behind comments and others.
func TestParseTwice(t *testing.T) {
	expectParse(t, textOf(diesel(), diesel()), nil, 2, api.ErrTwice)
	expectParse(t, textOf(diesel())+"\n#\n"+textOf(named("a"), api.Product{Name: "diesel", Density: 400, Friction: 1}), nil, 5, api.ErrTwice)
	expectParse(t, textOf(named("a"), named("b"), named("b"), named("a")), nil, 3, api.ErrTwice)
	expectParse(t, textOf(named("a"), named("b"), named("a"), named("b")), nil, 3, api.ErrTwice)
	expectParse(t, textOf(append(table(api.MaxProducts-1), named("p0"))...), nil, api.MaxProducts, api.ErrTwice)
}

// P4.2: one product too many, with its line; comments are not counted as products.
func TestParseLimit(t *testing.T) {
	more := table(api.MaxProducts + 1)
	full := textOf(more[:api.MaxProducts]...)
	last := lineOf(more[api.MaxProducts])
	expectParse(t, full+last, nil, 17, api.ErrLimit)
	expectParse(t, "#\n\n"+full+"\n"+last+"\n", nil, 20, api.ErrLimit)
	expectParse(t, full+last+"\n"+last+"\n", nil, 17, api.ErrLimit)
	expectParse(t, full+last+"\nx\n", nil, 17, api.ErrLimit)
	expectParse(t, textOf(table(200)...), nil, 17, api.ErrLimit)
	expectParse(t, full+"\n\n# end", table(api.MaxProducts), 0, api.OK)
}

// P4.2: the errors of a text come before those of its lines, those of a line in their order, and before those of the next one.
func TestParseOrder(t *testing.T) {
	full := textOf(table(api.MaxProducts)...)
	bad := lineOf(with(3, 0))
	for _, x := range []struct {
		name, text string
		line       int
		e          api.Errno
	}{
		{"a text too long", "#" + strings.Repeat("a", api.MaxText), 0, api.ErrLimit},
		{"a text too long before a form", "x\n#" + strings.Repeat("a", api.MaxText), 0, api.ErrLimit},
		{"too many lines", strings.Repeat("\n", api.MaxLines+1), 0, api.ErrLimit},
		{"too many lines before a form", "x\n" + strings.Repeat("\n", api.MaxLines), 0, api.ErrLimit},
		{"a space too many", "product  diesel 840 830 800 1200", 0, api.ErrForm},
		{"a space at the end", "\nproduct diesel 840 830 800 1200 ", 0, api.ErrForm},
		{"a space at the beginning", " " + textOf(diesel()), 0, api.ErrForm},
		{"a carriage return", lineOf(diesel()) + "\r\n", 0, api.ErrForm},
		{"a tab", "product\tdiesel 840 830 800 1200", 0, api.ErrForm},
		{"17 words", strings.Repeat("a ", api.MaxWords) + "a", 0, api.ErrForm},
		{"a letter with a mark", "product é 840 830 800 1200", 0, api.ErrForm},
		{"a wrong line behind a line of another form", "x\n" + bad + "\n \n", 0, api.ErrForm},
		{"a wrong line behind one that is not valid", bad + "\n\n ", 0, api.ErrForm},
		{"a wrong line behind too many", full + full + " ", 0, api.ErrForm},
		{"16 words", strings.Repeat("a ", api.MaxWords-1) + "a", 1, api.ErrForm},
		{"form, then not valid", "x\n" + bad, 1, api.ErrForm},
		{"not valid, then form", bad + "\nx", 1, api.ErrInvalid},
		{"twice, then form", textOf(diesel(), diesel()) + "x", 2, api.ErrTwice},
		{"twice, then not valid", textOf(diesel(), diesel()) + bad, 2, api.ErrTwice},
		{"a name twice, not valid", textOf(diesel()) + bad, 2, api.ErrInvalid},
		{"a name twice, of another form", textOf(diesel()) + "product diesel 840 830 800", 2, api.ErrForm},
		{"number 17, of another form", full + "product diesel", 17, api.ErrForm},
		{"number 17, not valid", full + bad, 17, api.ErrInvalid},
		{"number 17, a name twice", full + lineOf(named("p7")), 17, api.ErrTwice},
		{"number 17, then form", full + textOf(diesel()) + "x", 17, api.ErrLimit},
	} {
		if l, line, e := Parse(x.text); len(l) != 0 || line != x.line || e != x.e {
			t.Errorf("%s: Parse = %v, %d, %d, want the error %d in line %d", x.name, l, line, e, x.e, x.line)
		}
	}
}

// P4.3: the texts of tables. (Those of others are in TestCheck.)
func TestFormat(t *testing.T) {
	for _, x := range []struct {
		l    []api.Product
		want string
	}{
		{nil, ""},
		{[]api.Product{}, ""},
		{[]api.Product{diesel()}, "product diesel 840 830 800 1200\n"},
		{[]api.Product{named("b"), {Name: "a", Density: 400, Friction: 1}}, "product b 840 830 800 1200\nproduct a 400 0 0 1\n"},
		{table(api.MaxProducts), textOf(table(api.MaxProducts)...)},
	} {
		if got, e := Format(x.l); got != x.want || e != api.OK {
			t.Errorf("Format(%v) = %q, %d, want %q", x.l, got, e, x.want)
		}
	}
}

// anyTable is a valid table.
func anyTable(r *rand.Rand) []api.Product {
	l := make([]api.Product, r.Intn(api.MaxProducts+1))
	for i, at := range r.Perm(len(l)) {
		n := [4]int{}
		for k, x := range ranges {
			n[k] = x[0] + r.Intn(x[1]-x[0]+1)
		}
		l[i] = api.Product{Name: string(rune('a'+at)) + strings.Repeat("-9", r.Intn(6)), Density: n[0], Expansion: n[1], Compress: n[2], Friction: n[3]}
	}
	return l
}

// P4.2, P4.3: what Format wrote is read, and comments between the lines change only the numbers of lines.
func TestTablesAreReadAsWritten(t *testing.T) {
	r := rand.New(rand.NewSource(6))
	for range 2000 {
		l := anyTable(r)
		text, e := Format(l)
		if e != api.OK || text != textOf(l...) {
			t.Fatalf("Format(%v) = %q, %d", l, text, e)
		}
		expectParse(t, text, l, 0, api.OK)
		var lines []string
		for _, line := range append(strings.SplitAfter(text, "\n"), "x") {
			for range r.Intn(4) {
				lines = append(lines, []string{"\n", "#\n", "# product a  \x00\n"}[r.Intn(3)])
			}
			lines = append(lines, line)
		}
		commented := strings.Join(lines[:len(lines)-1], "")
		expectParse(t, commented, l, 0, api.OK)
		expectParse(t, commented+"x", nil, strings.Count(commented, "\n")+1, api.ErrForm)
	}
}

// R2: no function changes its argument or the capacity behind it, and results share no memory.
func TestMemory(t *testing.T) {
	whole := table(6)
	l := whole[1:4]
	Check(l)
	Find(l, "p2")
	text, _ := Format(l)
	if !slices.Equal(whole, table(6)) {
		t.Errorf("the table became %v", whole)
	}
	first, _, _ := Parse(text)
	second, _, _ := Parse(text)
	first = first[:cap(first)]
	clear(first)
	if !slices.Equal(second, table(6)[1:4]) {
		t.Errorf("two results share memory: %v", second)
	}
}
