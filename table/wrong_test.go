package table_test

import (
	"math"
	"slices"
	"testing"

	"tumulus/api"
	"tumulus/heap"
	"tumulus/image"
)

// broken is a change of someHeap that breaks one rule.
type broken struct {
	name   string
	change func(h *api.Heap)
}

var brokenHandles = []broken{
	{"handles that fall", func(h *api.Heap) { h.Objects[1].Handle, h.Objects[2].Handle = 4, 3 }},
	{"objects that fall", func(h *api.Heap) { h.Objects[0], h.Objects[1] = h.Objects[1], h.Objects[0] }},
	{"a handle twice", func(h *api.Heap) { h.Objects[1].Handle = 4 }},
	{"a handle twice, below", func(h *api.Heap) { h.Objects[1].Handle = 1 }},
	{"a Next that is the last handle", func(h *api.Heap) { h.Next = 4 }},
	{"a Next of 1 with objects", func(h *api.Heap) { h.Next = 1 }},
	{"a handle above Next", func(h *api.Heap) { h.Objects[2].Handle = 7; leadTo(h, 1) }},
	{"a handle that is 0", func(h *api.Heap) { h.Objects[0].Handle = 0; leadTo(h, 4) }},
	{"a handle below 0", func(h *api.Heap) { h.Objects[0].Handle = -1; leadTo(h, 4) }},
	{"the least handle", func(h *api.Heap) { h.Objects[0].Handle = math.MinInt; leadTo(h, 4) }},
	{"the greatest handle", func(h *api.Heap) { h.Objects[2].Handle = math.MaxInt; leadTo(h, 1) }},
	{"a Next of 0", func(h *api.Heap) { h.Next = 0 }},
	{"a Next above the limit", func(h *api.Heap) { h.Next = 1000002 }},
	{"the greatest Next", func(h *api.Heap) { h.Next = math.MaxInt }},
	{"the least Next", func(h *api.Heap) { h.Next = math.MinInt }},
	{"a handle and Next above the limit", func(h *api.Heap) { h.Next = 1000002; h.Objects[2].Handle = 1000001; leadTo(h, 1) }},
}

var brokenBlocks = []broken{
	{"another region's order, less", func(h *api.Heap) { h.Order = 3 }},
	{"another region's order, greater", func(h *api.Heap) { h.Order = 5 }},
	{"an order of none", func(h *api.Heap) { h.Order = 0 }},
	{"an order below", func(h *api.Heap) { h.Order = 2 }},
	{"an order above", func(h *api.Heap) { h.Order = 9 }},
	{"the least order", func(h *api.Heap) { h.Order = math.MinInt }},
	{"the greatest order", func(h *api.Heap) { h.Order = math.MaxInt }},
	{"a block of a greater order", func(h *api.Heap) { h.Objects[1].Block = api.Block{At: 4, Order: 1}; h.Free = h.Free[1:] }},
	{"a block of a smaller order", func(h *api.Heap) {
		h.Objects[0].Block.Order = 1
		h.Free = slices.Insert(h.Free, 0, api.Block{At: 2, Order: 1})
	}},
	{"too many words for the block", func(h *api.Heap) { h.Objects[0].Words = []int{1, 2, 3} }},
	{"too few words for the block", func(h *api.Heap) { h.Objects[0].Words, h.Objects[0].Links = nil, nil }},
	{"too many links for the block", func(h *api.Heap) { h.Objects[1].Links = []int{0} }},
	{"33 words", func(h *api.Heap) { h.Objects[0].Words = make([]int, 33) }},
	{"17 links", func(h *api.Heap) { h.Objects[0].Links = make([]int, 17) }},
	{"a block without an order", func(h *api.Heap) { h.Objects[1].Block.Order = -1 }},
	{"a block of the greatest order", func(h *api.Heap) { h.Objects[1].Block.Order = math.MaxInt }},
	{"a block behind the region", func(h *api.Heap) { h.Objects[1].Block.At = 16; h.Free[0] = api.Block{At: 4, Order: 1} }},
	{"a block ahead of the region", func(h *api.Heap) { h.Objects[1].Block.At = -1; h.Free[0] = api.Block{At: 4, Order: 1} }},
	{"a block at the least place", func(h *api.Heap) { h.Objects[2].Block.At = math.MinInt }},
	{"a block at the greatest place", func(h *api.Heap) { h.Objects[1].Block.At = math.MaxInt }},
	{"a block at no multiple of its size", func(h *api.Heap) {
		h.Objects[2].Block.At = 9
		h.Free = []api.Block{{At: 4}, {At: 6, Order: 1}, {At: 8}, {At: 13}, {At: 14, Order: 1}}
	}},
	{"a word in the blocks of two objects", func(h *api.Heap) { h.Objects[1].Block.At = 8 }},
	{"a word in an object's and a free block", func(h *api.Heap) { h.Objects[1].Block.At = 4 }},
	{"a word in no block", func(h *api.Heap) { h.Free = h.Free[1:] }},
	{"the last words in no block", func(h *api.Heap) { h.Free = h.Free[:2] }},
	{"nothing free", func(h *api.Heap) { h.Free = nil }},
	{"the first words in no block", func(h *api.Heap) { h.Objects = h.Objects[1:]; leadTo(h, 4) }},
}

var brokenFree = []broken{
	{"free blocks that fall", func(h *api.Heap) { h.Free[0], h.Free[1] = h.Free[1], h.Free[0] }},
	{"a free block twice", func(h *api.Heap) { h.Free = slices.Insert(h.Free, 0, h.Free[0]) }},
	{"free twins", func(h *api.Heap) {
		h.Free = append(h.Free[:2], api.Block{At: 12, Order: 1}, api.Block{At: 14, Order: 1})
	}},
	{"a free block at no multiple of its size", func(h *api.Heap) {
		h.Free = append(h.Free[:2], api.Block{At: 12}, api.Block{At: 13, Order: 1}, api.Block{At: 15})
	}},
	{"a free block behind the region", func(h *api.Heap) { h.Free = append(h.Free, api.Block{At: 16, Order: 4}) }},
	{"a free block that is too great", func(h *api.Heap) { h.Free[2].Order = 3 }},
	{"a free block ahead of the region", func(h *api.Heap) { h.Free = slices.Insert(h.Free, 0, api.Block{At: -1}) }},
	{"a free block without an order", func(h *api.Heap) { h.Free[0].Order = -1 }},
	{"a free block of the greatest order", func(h *api.Heap) { h.Free[0].Order = math.MaxInt }},
	{"a free block at the least place", func(h *api.Heap) { h.Free = slices.Insert(h.Free, 0, api.Block{At: math.MinInt}) }},
	{"a link to no object", func(h *api.Heap) { h.Objects[0].Links[0] = 2 }},
	{"a link to Next", func(h *api.Heap) { h.Objects[2].Links[1] = 6 }},
	{"a link below 0", func(h *api.Heap) { h.Objects[2].Links[1] = -1 }},
	{"the greatest link", func(h *api.Heap) { h.Objects[2].Links[1] = math.MaxInt }},
	{"a root to no object", func(h *api.Heap) { h.Tops[0] = 2 }},
	{"a second root to what is gone", func(h *api.Heap) { h.Tops[1] = 5 }},
	{"a third root to Next", func(h *api.Heap) { h.Tops[2] = 6 }},
	{"a last root below 0", func(h *api.Heap) { h.Tops[3] = -1 }},
}

// leadTo makes all links and roots lead to one handle, so that another one may go.
func leadTo(h *api.Heap, handle int) {
	for _, o := range h.Objects {
		for i := range o.Links {
			o.Links[i] = handle
		}
	}
	h.Tops = [api.Roots]int{handle}
}

// entries are some that may be: without a client, and of clients who may have a row of any Seq.
func entries() []api.Entry {
	all := []api.Entry{bare(1, 0), bare(900000000, 900000000)}
	for client := 1; client <= 4; client++ {
		for _, seq := range []int{1, 10*client + 4, 10*client + 5, 10*client + 6, 1000000} {
			all = append(all, asks(client, seq, alloc(0, 0)), asks(client, seq, api.Op{}))
		}
	}
	return all
}

// refusedAll looks that nothing is made of a state that is not right, by any entry.
func refusedAll(t *testing.T, name string, s api.State) {
	t.Helper()
	if plainRight(s) || image.Check(s) == api.OK {
		t.Fatalf("%s: %+v is right", name, s)
	}
	for _, e := range append(entries(), api.Entry{}, asks(5, 1, api.Op{}), asks(1, 0, api.Op{})) {
		refused(t, name, s, e)
	}
}

func TestBrokenHeap(t *testing.T) {
	for _, x := range slices.Concat(brokenHandles, brokenBlocks, brokenFree) {
		for _, clients := range [][]int{nil, {2}, {1, 2, 3, 4}} {
			s := some(clients...)
			x.change(&s.Heap)
			if heap.Check(s.Heap) == api.OK {
				t.Fatalf("%s: %+v is right", x.name, s.Heap)
			}
			refusedAll(t, x.name, s)
		}
	}
	refusedAll(t, "a zero state", api.State{})
	refusedAll(t, "no heap, and rows", api.State{Rows: some(1, 2).Rows})
	refusedAll(t, "a region without blocks", api.State{Heap: api.Heap{Order: 3, Next: 1}})
}

// TestBrokenRow: a row that may not be, alone, ahead of another one and behind one.
func TestBrokenRow(t *testing.T) {
	var wrong []api.Row
	add := func(client, seq int, code api.Errno) {
		wrong = append(wrong, api.Row{Client: client, Seq: seq, Result: api.Result{Code: code, Value: 5}})
	}
	for _, n := range append(edges, 0, 5, -1, 6, 256+1) {
		add(n, 1, 0)
		add(n, 1000000, 65535)
	}
	for _, n := range append(edges, 0, 1000001, -1, 1000002) {
		add(1, n, 0)
		add(2, n, 0)
		add(4, n, 0)
	}
	for _, n := range append(edges, -1, 65536, -65535, 65537) {
		add(1, 1, api.Errno(n))
		add(2, 1000000, api.Errno(n))
		add(4, 1, api.Errno(n))
	}
	for _, row := range wrong {
		s := some()
		s.Rows = []api.Row{row}
		refusedAll(t, "a row that may not be", s)
		s.Rows = []api.Row{row, rowOf(3)}
		refusedAll(t, "a row that may not be, ahead", s)
		s.Rows = []api.Row{rowOf(1), row}
		refusedAll(t, "a row that may not be, behind", s)
		s.Rows = []api.Row{rowOf(1), row, rowOf(4)}
		refusedAll(t, "a row that may not be, between", s)
	}
}

// TestBrokenRows: rows that may be, and do not rise.
func TestBrokenRows(t *testing.T) {
	for _, clients := range [][]int{{1, 1}, {4, 4}, {2, 1}, {4, 1}, {4, 3}, {1, 2, 2}, {1, 3, 2}, {3, 1, 2}, {2, 2, 3}, {4, 3, 2, 1}, {1, 2, 3, 3}, {1, 2, 3, 4, 4}, {1, 1, 2, 3, 4}, {1, 2, 3, 4, 1}} {
		refusedAll(t, "rows that do not rise", some(clients...))
	}
	s := some()
	s.Rows = make([]api.Row, 1000)
	refusedAll(t, "many rows", s)
}

// TestWrongEntries: of an entry that may not be nothing is made, whatever the state is.
func TestWrongEntries(t *testing.T) {
	var wrong []api.Entry
	for _, right := range entries() {
		for _, n := range append(edges, 0, -1, 900000001) {
			e := right
			e.Number = n
			wrong = append(wrong, e)
		}
		for _, n := range append(edges, -1, 900000001) {
			e := right
			e.View = n
			wrong = append(wrong, e)
		}
		e := right
		for _, n := range append(edges, -1, 5, 6, 256+1) {
			e.Client = n
			wrong = append(wrong, e)
		}
		e = right
		for _, n := range append(edges, -1, 1000001, 1000002) {
			e.Seq = n
			wrong = append(wrong, e)
		}
	}
	for client := 1; client <= 4; client++ {
		wrong = append(wrong, asks(client, 0, alloc(0, 0)), asks(client, 0, api.Op{}))
		wrong = append(wrong, asks(0, client, alloc(0, 0)), asks(0, client, api.Op{}))
	}
	for _, o := range opsOfOne() {
		wrong = append(wrong, asks(0, 0, o))
	}
	zero := api.State{}
	for _, e := range wrong {
		for _, clients := range [][]int{nil, {3}, {1, 2, 3, 4}} {
			refused(t, "an entry that may not be", some(clients...), e)
		}
		refused(t, "an entry that may not be, in no state", zero, e)
	}
}
