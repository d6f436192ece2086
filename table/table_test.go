package table_test

import (
	"math"
	"testing"

	"tumulus/api"
	"tumulus/heap"
	"tumulus/image"
	"tumulus/table"
)

// edges are the ints as far off as they go, and those that fewer bits would take for small ones.
var edges = []int{math.MinInt, math.MinInt + 1, math.MaxInt, math.MaxInt - 1, 1 << 31, -1 << 31, 1<<32 + 1, 1 << 32, -1 << 32}

func alloc(words, links int) api.Op     { return api.Op{Kind: api.OpAlloc, N: words, K: links} }
func drop(handle int) api.Op            { return api.Op{Kind: api.OpFree, H: handle} }
func write(handle, i, value int) api.Op { return api.Op{Kind: api.OpWrite, H: handle, I: i, V: value} }
func link(handle, i, to int) api.Op     { return api.Op{Kind: api.OpLink, H: handle, I: i, T: to} }
func root(i, to int) api.Op             { return api.Op{Kind: api.OpRoot, I: i, T: to} }
func read(handle, i int) api.Op         { return api.Op{Kind: api.OpRead, H: handle, I: i} }
func follow(handle, i int) api.Op       { return api.Op{Kind: api.OpFollow, H: handle, I: i} }
func top(i int) api.Op                  { return api.Op{Kind: api.OpTop, I: i} }

// asks is a client's entry.
func asks(client, seq int, o api.Op) api.Entry {
	return api.Entry{Number: 1, Client: client, Seq: seq, Op: o}
}

// bare is an entry without a client.
func bare(number, view int) api.Entry {
	return api.Entry{Number: number, View: view}
}

func fresh(t *testing.T, order int) api.State {
	t.Helper()
	s, e := table.New(order)
	if e != api.OK {
		t.Fatalf("P14.1: New(%d): %d", order, e)
	}
	return s
}

// someHeap is one of order 4 with three objects, and free words between them and behind.
func someHeap() api.Heap {
	return api.Heap{
		Order: 4,
		Next:  6,
		Tops:  [api.Roots]int{1, 0, 4, 4},
		Objects: []api.Object{
			{Handle: 1, Block: api.Block{At: 0, Order: 2}, Words: []int{7, -8}, Links: []int{4}},
			{Handle: 3, Block: api.Block{At: 5, Order: 0}},
			{Handle: 4, Block: api.Block{At: 8, Order: 2}, Words: []int{math.MaxInt}, Links: []int{0, 4}},
		},
		Free: []api.Block{{At: 4, Order: 0}, {At: 6, Order: 1}, {At: 12, Order: 2}},
	}
}

// rowOf is a client's row, as it has none other: its Seq is ten times the client, and 5.
func rowOf(client int) api.Row {
	return api.Row{Client: client, Seq: 10*client + 5, Result: api.Result{Code: api.Errno(50 + client), Value: -client}}
}

// some is a right state with rows of these clients.
func some(clients ...int) api.State {
	s := api.State{Heap: someHeap()}
	for _, c := range clients {
		s.Rows = append(s.Rows, rowOf(c))
	}
	return s
}

// subsets are all rows of clients that rise.
func subsets() [][]int {
	var all [][]int
	for set := range 16 {
		var l []int
		for c := 1; c <= 4; c++ {
			if set>>(c-1)&1 == 1 {
				l = append(l, c)
			}
		}
		all = append(all, l)
	}
	return all
}

func TestExamples(t *testing.T) {
	s := fresh(t, 3)
	e := func(seq int) api.Entry { return asks(1, seq, alloc(1, 0)) }
	one, result := apply(t, s, e(1))
	if result != (api.Result{Value: 1}) || len(one.Heap.Objects) != 1 {
		t.Errorf("the first: %+v, %+v", one, result)
	}
	stays(t, one, e(1), api.Result{Value: 1})
	two, result := apply(t, one, e(2))
	if result != (api.Result{Value: 2}) || len(two.Heap.Objects) != 2 {
		t.Errorf("the second: %+v, %+v", two, result)
	}
	stays(t, two, e(1), api.Result{Code: api.ErrTableOld})
	stays(t, two, e(2), api.Result{Value: 2})
	at2, _ := apply(t, s, e(2))
	stays(t, at2, e(1), api.Result{Code: api.ErrTableOld})
	stays(t, s, asks(0, 0, api.Op{}), api.Result{})
	refused(t, "no client, and an operation", s, asks(0, 0, alloc(1, 0)))
}

func TestNew(t *testing.T) {
	for order := 3; order <= 8; order++ {
		s, e := table.New(order)
		h, _ := heap.New(order)
		if e != api.OK || !sameHeap(s.Heap, h) || len(s.Rows) != 0 {
			t.Errorf("P14.1: New(%d): %+v, %d", order, s, e)
		}
		if s.Heap.Order != order || s.Heap.Next != 1 || len(s.Heap.Free) != 1 || len(s.Heap.Objects) != 0 {
			t.Errorf("P14.1: New(%d): %+v", order, s)
		}
		if image.Check(s) != api.OK {
			t.Errorf("P14.3: New(%d) is not right: %+v", order, s)
		}
		other := fresh(t, order)
		if !spoil(s) || !sameState(other, api.State{Heap: h}) || !sameState(fresh(t, order), other) {
			t.Errorf("R2: two answers of New(%d) share memory: %+v", order, other)
		}
	}
	for _, order := range append(edges, -1, 0, 1, 2, 9, 10, 11, 12, -3, 256+3, 1<<32+3, -1<<32+3, math.MinInt+3) {
		if s, e := table.New(order); e != api.ErrArg || !sameState(s, api.State{}) {
			t.Errorf("P14.1, R1: New(%d): %+v, %d", order, s, e)
		}
	}
}
