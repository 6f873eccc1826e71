package network

import (
	"math/rand"
	"strconv"
	"strings"
	"testing"

	"batchline/api"
)

// expectParse checks all results of Parse.
func expectParse(t *testing.T, text string, want api.Network, line int, e api.Errno) {
	t.Helper()
	if got, gotLine, gotE := Parse(text); !equal(got, want) || gotLine != line || gotE != e {
		t.Errorf("Parse(%.300q) = %v, %d, %d, want %v, %d, %d", text, got, gotLine, gotE, want, line, e)
	}
}

// expectParseError checks that Parse has an error in a line, and no other result.
func expectParseError(t *testing.T, text string, line int, e api.Errno) {
	t.Helper()
	expectParse(t, text, api.Network{}, line, e)
}

// exampleWith is the text of the example with another line of this number, from 1 on.
func exampleWith(number int, line string) string {
	l := strings.Split(exampleText, "\n")
	l[number-1] = line
	return strings.Join(l, "\n")
}

// without is the text of the example without the line of this number, from 1 on.
func without(number int) string {
	l := strings.Split(exampleText, "\n")
	return strings.Join(append(l[:number-1], l[number:]...), "\n")
}

// behind is the text of the example up to the line of this number, from 1 on, with a line behind it.
func behind(number int, line string) string {
	l := strings.Split(exampleText, "\n")
	return strings.Join(append(l[:number], line), "\n")
}

// P12.2: the example of the chapter, comments, and the ends of lines.
func TestParse(t *testing.T) {
	expectParse(t, exampleText, example(), 0, api.OK)
	expectParse(t, exampleText+"\n", example(), 0, api.OK)
	expectParse(t, "\n# a\n"+strings.ReplaceAll(exampleText, "\n", "\n\n#point 7\n")+"\n\n#", example(), 0, api.OK)
	expectParse(t, "network 0 0\nnode a", least(), 0, api.OK)
	expectParse(t, "network -100000 100\nnode node\nnode network", api.Network{Nodes: []string{"node", "network"}, Vapour: -100000, Settle: 100}, 0, api.OK)
	expectParse(t, "network 7 8\nnode a\nport b a 9\nstation c a 1 2 3", api.Network{
		Nodes:    []string{"a"},
		Ports:    []api.Port{{Name: "b", Pressure: 9}},
		Stations: []api.Station{{Name: "c", Head: 1, Fall: 2, Suction: 3}},
		Vapour:   7,
		Settle:   8,
	}, 0, api.OK)
	expectParse(t, "network 0 0\nnode a\nnode b\nstation c b 1 2 3", api.Network{
		Nodes:    []string{"a", "b"},
		Stations: []api.Station{{Name: "c", Node: 1, Head: 1, Fall: 2, Suction: 3}},
	}, 0, api.OK)
	expectParse(t, "network 0 0\nnode a\nnode b\nnode c\nsegment s c b 2 3 4\npoint 0 5 6\npoint 1 -7 8\npoint 2 9 10\nsegment r b a 3 0 0\npoint 0 0 0\npoint 3 0 1", api.Network{
		Nodes: []string{"a", "b", "c"},
		Segments: []api.Segment{
			{Name: "s", From: 2, To: 1, Capacity: 2, Resist: 3, Wave: 4, Points: []api.Point{{At: 0, Height: 5, Limit: 6}, {At: 1, Height: -7, Limit: 8}, {At: 2, Height: 9, Limit: 10}}},
			{Name: "r", From: 1, To: 0, Capacity: 3, Points: []api.Point{{}, {At: 3, Limit: 1}}},
		},
	}, 0, api.OK)
}

// P12.2: lines that are not of the form, also where they would not be in order, or name what is not there.
func TestParseForm(t *testing.T) {
	for _, line := range []string{
		"x", "Network 1 2", "networks 1 2", "nod a", "nodes a", "points 1 2 3", "pump p a 1 2 3", "1 network 2", "a a a a a a a a a a a a a a a a",
		"network", "network 1", "network 1 2 3", "network a 1", "network 1 a", "network 01 1", "network 1 +1", "network -0 1", "network 1 2 #",
		"node", "node a b", "node c 1",
		"segment s a b 100 1", "segment s a b 100 1 50 1", "segment s a b", "segment", "segment s a b x 1 50", "segment s a b 100 x 50", "segment s a b 100 1 x", "segment a b 100 1 50", "segment s a 100 b 1 50", "segment s a b 100 1 1.5",
		"point", "point 0 0", "point 0 0 900000 1", "point x 0 900000", "point 0 x 900000", "point 0 0 x", "point 0 0 0x1", "point p 0 0 1",
		"port", "port in a", "port in a 300000 1", "port in a x", "port in 300000 a", "port in 300000", "port in a -",
		"station p a 500000 200", "station p a 500000 200 100000 1", "station p a x 200 100000", "station p a 500000 x 100000", "station p a 500000 200 x", "station p a", "station", "station p 1 2 3",
		// Numbers that are too great are none.
		"network 9007199254740993 1", "network 1 -9007199254740993", "segment s a b 18446744073709551716 1 50", "point 0 0 18446744073709551616", "port in a 9007199254740993", "station p a 500000 200 9007199254740993",
		// A form comes before an order and what is not there.
		"segment s a z 100 1 x", "port in z x", "station p z 1 2",
	} {
		expectParseError(t, line, 1, api.ErrForm)
		for number := 1; number <= 9; number++ {
			expectParseError(t, behind(number, line), number+1, api.ErrForm)
		}
		expectParseError(t, "\n#\n"+behind(1, line)+"\nx\nnode 1", 4, api.ErrForm)
	}
}

// lineKinds are a line of each kind.
var lineKinds = []string{"network 1 2", "node c", "segment s2 a b 100 1 50", "point 100 20 900000", "port in2 a 3", "station q b 1 2 3"}

// P12.2: which lines may stand behind which; the first one has to be "network", and no other one.
func TestParseOrder(t *testing.T) {
	for i, line := range lineKinds {
		if i > 0 {
			expectParseError(t, line, 1, api.ErrOrder)
			expectParseError(t, "\n# a\n"+line+"\nx", 3, api.ErrOrder)
		}
	}
	follows := map[string][]bool{ // by the kind of the line before, in the order of lineKinds
		"network": {false, true, true, false, true, true},
		"node":    {false, true, true, false, true, true},
		"segment": {false, false, true, true, true, true},
		"point":   {false, false, true, true, true, true},
		"port":    {false, false, false, false, true, true},
		"station": {false, false, false, false, false, true},
	}
	l := strings.Split(exampleText, "\n")
	for number := 1; number <= len(l); number++ {
		word, _, _ := strings.Cut(l[number-1], " ")
		for i, line := range lineKinds {
			_, at, e := Parse(behind(number, line))
			if wrong := at == number+1 && e == api.ErrOrder; wrong == follows[word][i] {
				t.Errorf("%q behind %q: the error %d in line %d", line, l[number-1], e, at)
			}
		}
	}
}

// P12.2: an order comes before what is not there; comments are no lines.
func TestParseOrderFirst(t *testing.T) {
	expectParseError(t, "segment s a b 1 1 1", 1, api.ErrOrder)
	expectParseError(t, "port in z 1\nnetwork 1 2", 1, api.ErrOrder)
	expectParseError(t, "node a", 1, api.ErrOrder)
	expectParseError(t, "network 1 2\nnetwork 1 2", 2, api.ErrOrder)
	expectParseError(t, exampleText+"\n\nsegment s2 z z 1 1 1", 11, api.ErrOrder)
	expectParseError(t, exampleText+"\n\nport in2 z 1", 11, api.ErrOrder)
	expectParseError(t, behind(3, "point 0 0 0"), 4, api.ErrOrder)
	expectParseError(t, "# network 1 2\nnode a\nnode a", 2, api.ErrOrder)
	expectParse(t, "# node a\n\nnetwork 0 0\n\nnode a", least(), 0, api.OK)
	expectParse(t, strings.Replace(exampleText, "\npoint", "\n# x\n\npoint", 2), example(), 0, api.OK)
}

// P12.2: nodes that are not there.
func TestParseUnknown(t *testing.T) {
	for _, x := range []struct {
		number int
		line   string
	}{
		{4, "segment s z b 100 1 50"},
		{4, "segment s a z 100 1 50"},
		{4, "segment s z z 100 1 50"},
		{4, "segment s s b 100 1 50"},
		{4, "segment s a A 100 1 50"},
		{4, "segment s 0 1 100 1 50"},
		{4, "segment S a c 0 -1 -1"},
		{7, "port in z 300000"},
		{7, "port in s 300000"},
		{8, "port in in -1"},
		{9, "station p z 500000 200 100000"},
		{9, "station p in 500000 200 100000"},
	} {
		expectParseError(t, exampleWith(x.number, x.line), x.number, api.ErrUnknown)
		expectParseError(t, "#\n"+exampleWith(x.number, x.line)+"\nx", x.number+1, api.ErrUnknown)
	}
	expectParseError(t, "network 1 2\nsegment s a b 1 1 1\nnode a\nnode b", 2, api.ErrUnknown)
	expectParseError(t, "network 1 2\nport p a 1", 2, api.ErrUnknown)
	expectParseError(t, "network 1 2\n\nstation p a 1 2 3\nnode a", 3, api.ErrUnknown)
	expectParseError(t, without(2), 3, api.ErrUnknown)
	// What is no name is the error of Check, which comes behind all lines.
	expectParseError(t, "network 1 2\nnode A\nport p A 1", 0, api.ErrForm)
	expectParseError(t, "network 1 2\nnode A\nport p a 1", 3, api.ErrUnknown)
}

// P12.2: no line but comments.
func TestParseNothing(t *testing.T) {
	for _, text := range []string{"", "\n", "#", "# network 1 2\n\n", strings.Repeat("\n", api.MaxLines)} {
		expectParseError(t, text, 0, api.ErrForm)
	}
}

// P12.2: the errors of Check, with the line 0, behind those of all lines.
func TestParseCheck(t *testing.T) {
	for _, x := range []struct {
		text string
		e    api.Errno
	}{
		{"network 1 2", api.ErrLimit},
		{without(6), api.ErrLimit},
		{without(5), api.ErrLimit},
		{"network 0 0\n" + strings.Repeat("node a\n", api.MaxNodes+1), api.ErrLimit},
		{exampleText + "\n" + strings.Repeat("station p a 500000 200 100000\n", api.MaxStations), api.ErrLimit},
		{behind(8, strings.Repeat("port in a 1\n", api.MaxPorts-1)), api.ErrLimit},
		{behind(6, strings.Repeat("segment s a b 1 1 1\npoint 0 0 0\npoint 1 0 0\n", api.MaxSegments)), api.ErrLimit},
		{behind(6, strings.Repeat("point 100 0 0\n", api.MaxPoints-1)), api.ErrLimit},
		{exampleWith(8, "port Out b 0"), api.ErrForm},
		{exampleWith(4, "segment abcdefghijklm a b 100 1 50"), api.ErrForm},
		{exampleWith(9, "station # a 1 2 3"), api.ErrForm},
		{exampleWith(8, "port in b 0"), api.ErrTwice},
		{exampleWith(3, "node b\nnode b"), api.ErrTwice},
		{exampleText + "\nstation q a 1 2 3", api.ErrTwice},
		{exampleWith(4, "segment s b b 100 1 50"), api.ErrInvalid},
		{exampleWith(4, "segment s a b 101 1 50"), api.ErrInvalid},
		{exampleWith(5, "point 0 -501 900000"), api.ErrInvalid},
		{exampleWith(1, "network 100000001 10"), api.ErrInvalid},
		{exampleWith(1, "network 50000 -1"), api.ErrInvalid},
		{exampleWith(9, "station p a 500000 100001 100000"), api.ErrInvalid},
		{exampleWith(7, "port in a 9007199254740992"), api.ErrInvalid},
	} {
		expectParseError(t, x.text, 0, x.e)
		expectParseError(t, x.text+"\n# a\nx", strings.Count(x.text, "\n")+3, api.ErrForm)
	}
	for _, x := range ranges {
		for _, v := range []int{x.least - 1, x.most + 1} {
			n := example()
			*x.field(&n) = v
			expectParseError(t, textOf(n), 0, api.ErrInvalid)
		}
	}
}

// P12.2: the errors of a text come before those of its lines, and those of a line before those of the next one.
func TestParseText(t *testing.T) {
	for _, x := range []struct {
		text string
		line int
		e    api.Errno
	}{
		{exampleText + "\n#" + strings.Repeat("a", api.MaxText), 0, api.ErrLimit},
		{"x\n#" + strings.Repeat("a", api.MaxText), 0, api.ErrLimit},
		{strings.Repeat("\n", api.MaxLines+1), 0, api.ErrLimit},
		{"x\n" + strings.Repeat("\n", api.MaxLines), 0, api.ErrLimit},
		{exampleText + " ", 0, api.ErrForm},
		{" " + exampleText, 0, api.ErrForm},
		{strings.Replace(exampleText, "node a", "node  a", 1), 0, api.ErrForm},
		{strings.ReplaceAll(exampleText, "\n", "\r\n"), 0, api.ErrForm},
		{"x\n" + strings.Repeat("a ", api.MaxWords) + "a", 0, api.ErrForm},
		{"node a\n\x00", 0, api.ErrForm},
		{"network 0 0\nport p a 1\nx", 2, api.ErrUnknown},
		{"network 0 0\nx\nport p a 1", 2, api.ErrForm},
		{"network 0 0\nnetwork 0 0\nx", 2, api.ErrOrder},
		{"network 0 0\nport p a 1\nnetwork 0 0", 2, api.ErrUnknown},
		{"network 0 0\nnode a\nnode a\n\n#\nx", 6, api.ErrForm},
		{"network 0 0\n" + strings.Repeat("node a\n", 398) + "x", 400, api.ErrForm},
		{"network 0 0\n" + strings.Repeat("node a\n", 399), 0, api.ErrLimit},
	} {
		expectParseError(t, x.text, x.line, x.e)
	}
}

// textOf is the text of a network, valid or not.
func textOf(n api.Network) string {
	var b strings.Builder
	line := func(words string, numbers ...int) {
		b.WriteString(words)
		for _, v := range numbers {
			b.WriteString(" " + strconv.Itoa(v))
		}
		b.WriteString("\n")
	}
	line("network", n.Vapour, n.Settle)
	for _, name := range n.Nodes {
		line("node " + name)
	}
	for _, s := range n.Segments {
		line("segment "+s.Name+" "+n.Nodes[s.From]+" "+n.Nodes[s.To], s.Capacity, s.Resist, s.Wave)
		for _, p := range s.Points {
			line("point", p.At, p.Height, p.Limit)
		}
	}
	for _, p := range n.Ports {
		line("port "+p.Name+" "+n.Nodes[p.Node], p.Pressure)
	}
	for _, s := range n.Stations {
		line("station "+s.Name+" "+n.Nodes[s.Node], s.Head, s.Fall, s.Suction)
	}
	return b.String()
}

// anyNetwork is some valid network.
func anyNetwork(r *rand.Rand) api.Network {
	n := api.Network{Vapour: r.Intn(200000) - 100000, Settle: r.Intn(101)}
	for i := range 2 + r.Intn(api.MaxNodes-1) {
		n.Nodes = append(n.Nodes, "n"+strconv.Itoa(i))
	}
	nodes := r.Perm(len(n.Nodes))
	for i := range r.Intn(api.MaxSegments + 1) {
		r.Shuffle(len(nodes), func(i, j int) { nodes[i], nodes[j] = nodes[j], nodes[i] })
		s := api.Segment{Name: "s" + strconv.Itoa(i), From: nodes[0], To: nodes[1], Resist: r.Intn(1001), Wave: r.Intn(100001)}
		for range 2 + r.Intn(api.MaxPoints-1) {
			s.Points = append(s.Points, api.Point{At: s.Capacity, Height: r.Intn(5501) - 500, Limit: r.Intn(api.MaxPressure + 1)})
			s.Capacity += 1 + r.Intn(1000)
		}
		s.Capacity = s.Points[len(s.Points)-1].At
		n.Segments = append(n.Segments, s)
	}
	for i := range r.Intn(api.MaxPorts + 1) {
		n.Ports = append(n.Ports, api.Port{Name: "p" + strconv.Itoa(i), Node: r.Intn(len(n.Nodes)), Pressure: r.Intn(api.MaxPressure + 1)})
	}
	for i := range r.Intn(min(api.MaxStations, len(n.Nodes)) + 1) {
		n.Stations = append(n.Stations, api.Station{Name: "p" + strconv.Itoa(i), Node: nodes[i], Head: r.Intn(1000), Fall: r.Intn(100001), Suction: r.Intn(1000)})
	}
	return n
}

// P12.3: the texts of networks, which are read as they were written.
func TestFormat(t *testing.T) {
	if got, e := Format(example()); got != exampleText+"\n" || e != api.OK {
		t.Errorf("Format of the example = %q, %d", got, e)
	}
	if got, e := Format(least()); got != "network 0 0\nnode a\n" || e != api.OK {
		t.Errorf("Format of the least network = %q, %d", got, e)
	}
	if got, e := Format(full()); got != textOf(full()) || e != api.OK {
		t.Errorf("Format of the greatest network = %q, %d", got, e)
	}
	r := rand.New(rand.NewSource(12))
	for range 300 {
		n := anyNetwork(r)
		if got, e := Format(n); got != textOf(n) || e != api.OK {
			t.Fatalf("Format(%+v) = %q, %d", n, got, e)
		}
		expectOK(t, "any", n)
	}
}
