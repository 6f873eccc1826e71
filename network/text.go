package network

import (
	"strconv"

	"batchline/api"
	"batchline/lines"
	"batchline/rows"
)

// The first words of lines.
const (
	networkWord = "network"
	nodeWord    = "node"
	segmentWord = "segment"
	pointWord   = "point"
	portWord    = "port"
	stationWord = "station"
)

// place is where a line stands in the order of a text.
type place int

const (
	noPlace place = iota // where nothing stands
	networkPlace
	nodePlace
	segmentPlace // of segments and their points
	portPlace
	stationPlace
)

// kind is a kind of line.
type kind struct {
	place          place
	first, last    place // where the line before it may stand
	names, numbers int   // how many names stand behind the first word, and how many numbers behind them
	add            func(names []string, numbers []int) api.Errno
}

// reader fills a network line by line.
type reader struct {
	network api.Network
	last    place // of the line before
}

// kinds returns the kinds of lines by their first words; they fill the network of r.
func (r *reader) kinds() map[string]kind {
	return map[string]kind{
		networkWord: {networkPlace, noPlace, noPlace, 0, 2, r.addNetwork},
		nodeWord:    {nodePlace, networkPlace, nodePlace, 1, 0, r.addNode},
		segmentWord: {segmentPlace, networkPlace, segmentPlace, 3, 3, r.addSegment},
		pointWord:   {segmentPlace, segmentPlace, segmentPlace, 0, 3, r.addPoint},
		portWord:    {portPlace, networkPlace, portPlace, 2, 1, r.addPort},
		stationWord: {stationPlace, networkPlace, stationPlace, 2, 3, r.addStation},
	}
}

// Parse returns the network of text and 0, or the number of the line with the first error, and the error.
func Parse(text string) (api.Network, int, api.Errno) {
	var r reader
	kinds := r.kinds()
	line, e := rows.Each(text, func(words []string) api.Errno {
		return r.take(kinds[words[0]], words[1:])
	})
	if e == api.OK && r.last == noPlace {
		e = api.ErrForm
	}
	if e == api.OK {
		e = Check(r.network)
	}
	if e != api.OK {
		return api.Network{}, line, e
	}
	return r.network, 0, api.OK
}

// take adds a line of the kind k with these words behind its first one.
func (r *reader) take(k kind, words []string) api.Errno {
	if k.add == nil || len(words) != k.names+k.numbers {
		return api.ErrForm
	}
	numbers, ok := numbersOf(words[k.names:])
	if !ok {
		return api.ErrForm
	}
	if r.last < k.first || r.last > k.last {
		return api.ErrOrder
	}
	r.last = k.place
	return k.add(words[:k.names], numbers)
}

// numbersOf returns the numbers that words are, and whether all of them are numbers.
func numbersOf(words []string) ([]int, bool) {
	numbers := make([]int, len(words))
	for i, w := range words {
		n, e := lines.Number(w)
		if e != api.OK {
			return nil, false
		}
		numbers[i] = n
	}
	return numbers, true
}

// addNetwork adds the numbers of the network itself.
func (r *reader) addNetwork(_ []string, numbers []int) api.Errno {
	r.network.Vapour, r.network.Settle = numbers[0], numbers[1]
	return api.OK
}

// addNode adds a node.
func (r *reader) addNode(names []string, _ []int) api.Errno {
	r.network.Nodes = append(r.network.Nodes, names[0])
	return api.OK
}

// addSegment adds a segment without points.
func (r *reader) addSegment(names []string, numbers []int) api.Errno {
	from, to := Node(r.network, names[1]), Node(r.network, names[2])
	if from < 0 || to < 0 {
		return api.ErrUnknown
	}
	r.network.Segments = append(r.network.Segments, api.Segment{
		Name:     names[0],
		From:     from,
		To:       to,
		Capacity: numbers[0],
		Resist:   numbers[1],
		Wave:     numbers[2],
	})
	return api.OK
}

// addPoint adds a point to the last segment.
func (r *reader) addPoint(_ []string, numbers []int) api.Errno {
	s := &r.network.Segments[len(r.network.Segments)-1]
	s.Points = append(s.Points, api.Point{At: numbers[0], Height: numbers[1], Limit: numbers[2]})
	return api.OK
}

// addPort adds a port.
func (r *reader) addPort(names []string, numbers []int) api.Errno {
	node := Node(r.network, names[1])
	if node < 0 {
		return api.ErrUnknown
	}
	r.network.Ports = append(r.network.Ports, api.Port{Name: names[0], Node: node, Pressure: numbers[0]})
	return api.OK
}

// addStation adds a station.
func (r *reader) addStation(names []string, numbers []int) api.Errno {
	node := Node(r.network, names[1])
	if node < 0 {
		return api.ErrUnknown
	}
	r.network.Stations = append(r.network.Stations, api.Station{
		Name:    names[0],
		Node:    node,
		Head:    numbers[0],
		Fall:    numbers[1],
		Suction: numbers[2],
	})
	return api.OK
}

// Format returns the text of the network n.
func Format(n api.Network) (string, api.Errno) {
	if e := Check(n); e != api.OK {
		return "", e
	}
	split := [][]string{lineOf([]string{networkWord}, n.Vapour, n.Settle)}
	for _, name := range n.Nodes {
		split = append(split, []string{nodeWord, name})
	}
	for _, s := range n.Segments {
		split = append(split, lineOf([]string{segmentWord, s.Name, n.Nodes[s.From], n.Nodes[s.To]}, s.Capacity, s.Resist, s.Wave))
		for _, p := range s.Points {
			split = append(split, lineOf([]string{pointWord}, p.At, p.Height, p.Limit))
		}
	}
	for _, p := range n.Ports {
		split = append(split, lineOf([]string{portWord, p.Name, n.Nodes[p.Node]}, p.Pressure))
	}
	for _, s := range n.Stations {
		split = append(split, lineOf([]string{stationWord, s.Name, n.Nodes[s.Node]}, s.Head, s.Fall, s.Suction))
	}
	return lines.Join(split)
}

// lineOf returns words with numbers behind them.
func lineOf(words []string, numbers ...int) []string {
	for _, n := range numbers {
		words = append(words, strconv.Itoa(n))
	}
	return words
}
