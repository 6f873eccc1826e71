package advance

import (
	"math/rand"
	"slices"
	"testing"

	"batchline/api"
)

// roomy is list with others around it in the same memory.
func roomy[T any](list []T, other T) (inside, around []T) {
	around = slices.Concat([]T{other}, list, []T{other, other})
	return around[1 : 1+len(list)], around
}

// roomyWork is w with other elements around each list that it has, and a function that tells all that is in the memory of these lists.
func roomyWork(w work) (work, func() string) {
	odd := api.Piece{Batch: 77, Volume: 7}
	var all []any
	fills := make([][]api.Piece, len(w.fills))
	for i, fill := range w.fills {
		inside, around := roomy(fill, odd)
		fills[i], all = inside, append(all, around)
	}
	fills, aroundFills := roomy(fills, []api.Piece{odd})
	segments, aroundSegments := roomy(w.n.Segments, api.Segment{})
	ports, aroundPorts := roomy(w.n.Ports, api.Port{})
	rates, aroundRates := roomy(w.p.Rates, 77)
	flows, aroundFlows := roomy(w.p.Ports, 77)
	feeds, aroundFeeds := roomy(w.feeds, 77)
	all = append(all, aroundFills, aroundSegments, aroundPorts, aroundRates, aroundFlows, aroundFeeds)
	n := w.n
	n.Segments, n.Ports = segments, ports
	return work{n, fills, plan(rates, flows...), feeds}, func() string { return text(all) }
}

// overwrite changes all of list, and its spare capacity.
func overwrite(list []api.Piece) {
	list = list[:cap(list)]
	for i := range list {
		list[i] = api.Piece{Batch: 66, Volume: 6}
	}
}

// expectOwn checks that no two lists of some results share memory, and then that the lists of these lists do not.
func expectOwn(t *testing.T, results [][][]api.Piece) {
	t.Helper()
	all := slices.Concat(results...)
	for i, list := range all {
		var before [][]api.Piece
		for _, other := range all {
			before = append(before, slices.Clone(other))
		}
		overwrite(list)
		for k, other := range all {
			if k != i && !slices.Equal(other, before[k]) {
				t.Errorf("results share memory: when %v was overwritten, %v became %v", before[i], before[k], other)
			}
		}
	}
	for i, lists := range results {
		lists = lists[:cap(lists)]
		for k := range lists {
			lists[k] = pieces(i, 1)
		}
	}
	for i, lists := range results {
		for _, list := range lists {
			if list[0].Batch != i {
				t.Errorf("results share memory: what was overwritten by %d is %v", i, list)
			}
		}
	}
}

// R2: arguments are left as they are, with what lies around them, and are not kept; results are new memory; with an error, too.
func TestMemory(t *testing.T) {
	r := rand.New(rand.NewSource(1))
	for i := range 60 {
		w := anyWork(r, []size{small, medium, crowded}[i%3])
		if i%4 == 0 {
			clear(w.p.Rates)
			clear(w.p.Ports)
		}
		if i%10 == 0 {
			w.feeds[0] = -1
		}
		arg, memory := roomyWork(w)
		before := memory()
		var results [][][]api.Piece
		for _, ticks := range []int{0, 1, 3} {
			fills, out, _ := Run(arg.n, arg.fills, arg.p, arg.feeds, ticks)
			results = append(results, fills, out)
		}
		fills, out, _ := Tick(arg.n, arg.fills, arg.p, arg.feeds)
		results = append(results, fills, out)
		Check(arg.n, arg.fills)
		if memory() != before {
			t.Errorf("arguments %.999s became %.999s", before, memory())
		}
		were := text(results)
		for _, fill := range arg.fills {
			overwrite(fill)
		}
		if text(results) != were {
			t.Errorf("with its arguments, %.999s became %.999s", were, text(results))
		}
		before = memory()
		expectOwn(t, results)
		if memory() != before {
			t.Errorf("with the results, the arguments %.999s became %.999s", before, memory())
		}
	}
}
