package table_test

import (
	"slices"
	"testing"

	"tumulus/api"
	"tumulus/table"
)

// narrow is a state whose lists lie in one another's memory: links lie in words, a list lies ahead of another one and
// has it as its spare memory, and ahead of the free blocks, the objects and the rows, and behind them, lie others.
func narrow(clients ...int) (s api.State, around api.State) {
	n := []int{1, 2, 0, 2, 1, 77, 88}
	around.Heap.Free = []api.Block{{At: 66}, {At: 8, Order: 2}, {At: 12, Order: 2}, {At: 67}, {At: 68}}
	around.Heap.Objects = []api.Object{
		{Handle: 66},
		{Handle: 1, Block: api.Block{At: 0, Order: 2}, Words: n[0:2], Links: n[1:2]},
		{Handle: 2, Block: api.Block{At: 4, Order: 2}, Words: n[0:0], Links: n[2:5]},
		{Handle: 3, Block: api.Block{At: 8, Order: 2}, Words: n[1:3], Links: n[3:4]},
		{Handle: 67, Words: n, Links: n},
	}
	around.Rows = []api.Row{{Client: 66}}
	for _, c := range clients {
		around.Rows = append(around.Rows, rowOf(c))
	}
	around.Rows = append(around.Rows, api.Row{Client: 67}, api.Row{Client: 68}, api.Row{Client: 69})
	s.Heap = api.Heap{Order: 4, Next: 4, Tops: [api.Roots]int{3, 2, 1}, Objects: around.Heap.Objects[1:4], Free: around.Heap.Free[2:3]}
	s.Rows = around.Rows[1 : 1+len(clients)]
	return s, around
}

// TestNarrow: of a state whose lists lie in one another's memory the same comes as of one whose lists don't, and no
// memory of it is written or is an answer's.
func TestNarrow(t *testing.T) {
	ops := []api.Op{alloc(0, 0), alloc(2, 1), alloc(33, 0), drop(1), drop(2), drop(9), write(1, 0, 5), write(3, 1, 6), link(1, 0, 3), link(2, 2, 0), root(0, 1), read(1, 1), follow(2, 1), top(2), {}}
	for _, clients := range subsets() {
		for client := 1; client <= 4; client++ {
			for i, o := range ops {
				e := asks(client, 10*client+4+i%3, o)
				s, around := narrow(clients...)
				before := cloneState(around)
				want, wanted := plainApply(s, e)
				next, result := table.Apply(s, e)
				if result != wanted || !sameState(next, want) {
					t.Fatalf("R2: %+v, lists in one memory: %+v, %+v, not %+v, %+v", e, next, result, want, wanted)
				}
				if !spoil(next) || !sameState(around, before) {
					t.Fatalf("R2: %+v: what comes out shares its memory: %+v became %+v", e, before, around)
				}
			}
		}
		s, around := narrow(clients...)
		before := cloneState(around)
		next, _ := table.Apply(s, bare(1, 1))
		if !sameState(next, s) || !spoil(next) || !sameState(around, before) {
			t.Fatalf("R2: without a client: %+v became %+v", before, around)
		}
	}
}

// TestApart: of a row of entries each state stays as it was told, whatever is done to all others later on.
func TestApart(t *testing.T) {
	d := dice(21)
	s := fresh(t, 5)
	var states, kept []api.State
	for range 300 {
		// Straight on from what came out, not from a copy.
		s, _ = table.Apply(s, rightEntry(&d, s))
		states, kept = append(states, s), append(kept, cloneState(s))
	}
	order := make([]int, len(states))
	for i := range order {
		order[i] = (i * 7) % len(order)
	}
	for at, i := range order {
		if !spoil(states[i]) {
			t.Fatalf("R2: two lists of %+v share memory", kept[i])
		}
		for _, j := range order[at+1:] {
			if !sameState(states[j], kept[j]) {
				t.Fatalf("R2: %+v, that came out in place %d, changed with what came out in place %d", kept[j], j, i)
			}
		}
	}
}

// TestEmptyLists: lists that are empty, with memory behind them or without, and lists that are nil do alike.
func TestEmptyLists(t *testing.T) {
	for _, empty := range [][]api.Row{nil, {}, make([]api.Row, 0, 5), some(1, 2).Rows[:0], some(1, 2).Rows[2:]} {
		s := api.State{Heap: someHeap(), Rows: empty}
		around := slices.Clone(empty[:cap(empty)])
		for client := 1; client <= 4; client++ {
			for _, e := range []api.Entry{asks(client, 1, alloc(0, 0)), asks(client, 15, api.Op{}), bare(1, 0)} {
				want, wanted := plainApply(s, e)
				next, result := table.Apply(s, e)
				if result != wanted || !sameState(next, want) || !slices.Equal(empty[:cap(empty)], around) {
					t.Errorf("P14.2: %+v, no rows: %+v, %+v, not %+v, %+v", e, next, result, want, wanted)
				}
			}
		}
	}
	s := some(2)
	s.Heap.Objects[1].Words, s.Heap.Objects[1].Links = []int{}, make([]int, 0, 4)
	next, result := table.Apply(s, asks(1, 1, drop(3)))
	if want := done(t, some(2), asks(1, 1, drop(3)), ok(0)); result != ok(0) || !sameState(next, want) {
		t.Errorf("P14.2: empty words and links: %+v, %+v, not %+v", next, result, want)
	}
	full := fresh(t, 3)
	for seq := 1; seq <= 8; seq++ {
		full = done(t, full, asks(1, seq, alloc(0, 0)), ok(seq))
	}
	full.Heap.Free = []api.Block{}
	done(t, full, asks(2, 1, alloc(0, 0)), fails(api.ErrHeapSpace))
	stays(t, full, bare(1, 0), api.Result{})
}
