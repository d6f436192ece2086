package image_test

import (
	"bytes"
	"math"
	"runtime"
	"slices"
	"testing"

	"tumulus/api"
	"tumulus/heap"
	"tumulus/image"
)

// broken is a change of the heap of some() that breaks one rule.
type broken struct {
	name   string
	change func(h *api.Heap)
}

// brokenNumbers break rules about what is laid, so that the bytes are no right heap's either.
var brokenNumbers = []broken{
	{"an order below", func(h *api.Heap) { h.Order = 2 }},
	{"an order above", func(h *api.Heap) { h.Order = 9 }},
	{"an order of none", func(h *api.Heap) { h.Order = 0 }},
	{"another region's order", func(h *api.Heap) { h.Order = 3 }},
	{"an order that a byte makes right", func(h *api.Heap) { h.Order = 256 + 4 }},
	{"an order of a word's bits", func(h *api.Heap) { h.Order = 64 }},
	{"an order of all but one", func(h *api.Heap) { h.Order = 62 }},
	{"an order of all but two", func(h *api.Heap) { h.Order = 63 }},
	{"the greatest order", func(h *api.Heap) { h.Order = 2147483647 }},
	{"handles that fall", func(h *api.Heap) { h.Objects[1].Handle, h.Objects[2].Handle = 4, 3 }},
	{"objects that fall", func(h *api.Heap) { h.Objects[0], h.Objects[1] = h.Objects[1], h.Objects[0] }},
	{"a handle twice", func(h *api.Heap) { h.Objects[1].Handle = 4 }},
	{"a handle twice, below", func(h *api.Heap) { h.Objects[1].Handle = 1 }},
	{"a handle that is Next", func(h *api.Heap) { h.Next = 4 }},
	{"handles above Next", func(h *api.Heap) { h.Next = 3 }},
	{"a Next of 1 with objects", func(h *api.Heap) { h.Next = 1 }},
	{"a handle above Next", func(h *api.Heap) { h.Objects[2].Handle = 7; leadTo(h, 1) }},
	{"a handle that is 0", func(h *api.Heap) { h.Objects[0].Handle = 0; leadTo(h, 4) }},
	{"the greatest handle", func(h *api.Heap) { h.Objects[2].Handle = 2147483647; leadTo(h, 1) }},
	{"a Next of 0", func(h *api.Heap) { h.Next = 0 }},
	{"a Next above the limit", func(h *api.Heap) { h.Next = 1000002 }},
	{"the greatest Next", func(h *api.Heap) { h.Next = 2147483647 }},
	{"a handle above the limit", func(h *api.Heap) { h.Next = 1000001; h.Objects[2].Handle = 1000001; leadTo(h, 1) }},
	{"a handle and Next above the limit", func(h *api.Heap) { h.Next = 1000002; h.Objects[2].Handle = 1000001; leadTo(h, 1) }},
	{"a block behind the region", func(h *api.Heap) { h.Objects[1].Block.At = 16; freeAnew(h, 1) }},
	{"a greater block behind the region", func(h *api.Heap) { h.Objects[2].Block.At = 16; freeAnew(h, 2) }},
	{"a block far behind the region", func(h *api.Heap) { h.Objects[2].Block.At = 1 << 30; freeAnew(h, 2) }},
	{"a block at the greatest place", func(h *api.Heap) { h.Objects[1].Block.At = 2147483647; freeAnew(h, 1) }},
	{"a block at no multiple of its size", func(h *api.Heap) {
		h.Objects[2].Block.At = 9
		h.Free = []api.Block{{At: 4}, {At: 6, Order: 1}, {At: 8}, {At: 13}, {At: 14, Order: 1}}
	}},
	{"a block across the region's end", func(h *api.Heap) { h.Objects[2].Block.At = 14 }},
	{"a word in the blocks of two objects", func(h *api.Heap) { h.Objects[1].Block.At = 3; freeAnew(h, 1) }},
	{"the first word in the blocks of two objects", func(h *api.Heap) { h.Objects[1].Block.At = 8; freeAnew(h, 1) }},
	{"two objects in one block", func(h *api.Heap) { h.Objects[2].Block.At = 0; freeAnew(h, 2) }},
	{"a link to no object", func(h *api.Heap) { h.Objects[0].Links[0] = 2 }},
	{"a link to what is gone", func(h *api.Heap) { h.Objects[2].Links[0] = 5 }},
	{"a link to Next", func(h *api.Heap) { h.Objects[2].Links[1] = 6 }},
	{"the greatest link", func(h *api.Heap) { h.Objects[2].Links[1] = 2147483647 }},
	{"a root to no object", func(h *api.Heap) { h.Tops[0] = 2 }},
	{"a second root to what is gone", func(h *api.Heap) { h.Tops[1] = 5 }},
	{"a third root to Next", func(h *api.Heap) { h.Tops[2] = 6 }},
	{"the greatest root", func(h *api.Heap) { h.Tops[3] = 2147483647 }},
	{"too few words in the region", func(h *api.Heap) { h.Objects[2].Words = make([]int, 30) }},
}

// brokenOnly break rules about what is not laid, or has numbers that none are: only PutHeap is asked.
var brokenOnly = []broken{
	{"another region's order, greater", func(h *api.Heap) { h.Order = 5 }},
	{"an order below 0", func(h *api.Heap) { h.Order = -4 }},
	{"the least order", func(h *api.Heap) { h.Order = math.MinInt }},
	{"an order that four bytes make right", func(h *api.Heap) { h.Order = 1<<32 + 4 }},
	{"a handle below 0", func(h *api.Heap) { h.Objects[0].Handle = -1; leadTo(h, 4) }},
	{"a handle that four bytes make right", func(h *api.Heap) { h.Objects[2].Handle = 1<<32 + 4; leadTo(h, 1) }},
	{"a Next below 0", func(h *api.Heap) { h.Next = -6 }},
	{"a Next that four bytes make right", func(h *api.Heap) { h.Next = 1<<32 + 6 }},
	{"a block of a greater order", func(h *api.Heap) { h.Objects[1].Block = api.Block{At: 4, Order: 1}; h.Free = h.Free[1:] }},
	{"a block of a smaller order", func(h *api.Heap) {
		h.Objects[0].Block.Order = 1
		h.Free = slices.Insert(h.Free, 0, api.Block{At: 2, Order: 1})
	}},
	{"too many words for the block", func(h *api.Heap) { h.Objects[0].Words = []int{1, 2, 3} }},
	{"too few words for the block", func(h *api.Heap) { h.Objects[0].Words, h.Objects[0].Links = nil, nil }},
	{"too many links for the block", func(h *api.Heap) { h.Objects[1].Links = []int{0} }},
	{"a block without an order", func(h *api.Heap) { h.Objects[1].Block.Order = -1 }},
	{"a block of the greatest order", func(h *api.Heap) { h.Objects[1].Block.Order = math.MaxInt }},
	{"a block ahead of the region", func(h *api.Heap) { h.Objects[1].Block.At = -1; freeAnew(h, 1) }},
	{"a block at the least place", func(h *api.Heap) { h.Objects[2].Block.At = math.MinInt; freeAnew(h, 2) }},
	{"a block that four bytes make right", func(h *api.Heap) { h.Objects[2].Block.At = 1<<32 + 8 }},
	{"a word in an object's and a free block", func(h *api.Heap) { h.Objects[1].Block.At = 4 }},
	{"an object's block in a greater free one", func(h *api.Heap) { h.Objects[1].Block.At = 13 }},
	{"a word in no block", func(h *api.Heap) { h.Free = h.Free[1:] }},
	{"the last words in no block", func(h *api.Heap) { h.Free = h.Free[:2] }},
	{"words in no block between", func(h *api.Heap) { h.Free = slices.Delete(h.Free, 1, 2) }},
	{"nothing free", func(h *api.Heap) { h.Free = nil }},
	{"the first words in no block", func(h *api.Heap) { h.Objects = h.Objects[1:]; leadTo(h, 4) }},
	{"free blocks that fall", func(h *api.Heap) { h.Free[0], h.Free[1] = h.Free[1], h.Free[0] }},
	{"a free block twice", func(h *api.Heap) { h.Free = slices.Insert(h.Free, 0, h.Free[0]) }},
	{"free twins", func(h *api.Heap) {
		h.Free = append(h.Free[:2], api.Block{At: 12, Order: 1}, api.Block{At: 14, Order: 1})
	}},
	{"a free block at no multiple of its size", func(h *api.Heap) {
		h.Free = append(h.Free[:2], api.Block{At: 12}, api.Block{At: 13, Order: 1}, api.Block{At: 15})
	}},
	{"a free block behind the region", func(h *api.Heap) { h.Free = append(h.Free, api.Block{At: 16, Order: 4}) }},
	{"a free block that is too great", func(h *api.Heap) { h.Free[2].Order = 3 }},
	{"a free block ahead of the region", func(h *api.Heap) { h.Free = slices.Insert(h.Free, 0, api.Block{At: -1}) }},
	{"a free block without an order", func(h *api.Heap) { h.Free[0].Order = -1 }},
	{"a link below 0", func(h *api.Heap) { h.Objects[2].Links[1] = -1 }},
	{"a link that four bytes make right", func(h *api.Heap) { h.Objects[2].Links[1] = 1<<32 + 1 }},
	{"a root below 0", func(h *api.Heap) { h.Tops[3] = -1 }},
	{"a root that four bytes make right", func(h *api.Heap) { h.Tops[1] = 1 << 32 }},
}

// leadTo makes all links and roots lead to one handle, so that another one may go.
func leadTo(h *api.Heap, handle int) {
	for _, o := range h.Objects {
		for i := range o.Links {
			o.Links[i] = handle
		}
	}
	h.Tops = [api.Roots]int{handle}
}

// freeAnew is what is free where the object in place i has no block.
func freeAnew(h *api.Heap, i int) {
	without := *h
	without.Objects = slices.Delete(slices.Clone(h.Objects), i, i+1)
	h.Free = plainFree(without)
}

// refused looks that a heap that is not right is not laid, alone or in a state, and stays as it is.
func refused(t *testing.T, name string, h api.Heap) {
	t.Helper()
	before := cloneHeap(h)
	if heap.Check(h) == api.OK {
		t.Fatalf("%s: %+v is right", name, h)
	}
	if b, e := image.PutHeap(h); b != nil || e != api.ErrImageForm {
		t.Errorf("P6.2, R1: %s: PutHeap(%+v): % x, %d", name, h, b, e)
	}
	for _, rows := range [][]api.Row{nil, rowsOf(1, 2, 3, 4)} {
		s := api.State{Heap: h, Rows: rows}
		if e := image.Check(s); e != api.ErrImageForm {
			t.Errorf("P6.3: %s: Check(%+v): %d", name, s, e)
		}
		if b, e := image.PutState(s); b != nil || e != api.ErrImageForm {
			t.Errorf("P6.3, R1: %s: PutState(%+v): % x, %d", name, s, b, e)
		}
	}
	if !sameHeap(h, before) {
		t.Errorf("R2: %s: %+v became %+v", name, before, h)
	}
}

func TestBroken(t *testing.T) {
	for _, x := range slices.Concat(brokenNumbers, brokenOnly) {
		h := some()
		x.change(&h)
		refused(t, x.name, h)
	}
	refused(t, "a zero heap", api.Heap{})
}

// TestBrokenBytes: what breaks a rule is not read, though its bytes are all there; alone and in a state.
func TestBrokenBytes(t *testing.T) {
	for _, x := range brokenNumbers {
		h := some()
		x.change(&h)
		b := plainHeap(h)
		noHeap(t, x.name, b)
		noState(t, x.name, slices.Concat(text(b), numbers(0)))
		noState(t, x.name, slices.Concat(text(b), plainRows(rowsOf(2)...)))
	}
}

// TestBrokenOrder: an order that is no region's, without objects.
func TestBrokenOrder(t *testing.T) {
	for _, order := range []int{0, 1, 2, 9, 10, 31, 32, 62, 63, 64, 65, 255, 256, 259, 65539, 16777219, 2147483647} {
		refused(t, "an order that is no region's", api.Heap{Order: order, Next: 1, Free: []api.Block{{Order: order}}})
		noHeap(t, "an order that is no region's", numbers(order, 1, 0, 0, 0, 0, 0))
	}
	noHeap(t, "an order that is no number", numbers(-1, 1, 0, 0, 0, 0, 0))
	noHeap(t, "an order with its highest bit", numbers(1<<31+3, 1, 0, 0, 0, 0, 0))
	for order := 3; order <= 8; order++ {
		if !readsHeap(t, "a region's order", numbers(order, 1, 0, 0, 0, 0, 0)) {
			t.Errorf("P6.2: an empty region of order %d is not read", order)
		}
	}
}

// TestBrokenSizes: objects of more words or links than there may be, in a block that would have room.
func TestBrokenSizes(t *testing.T) {
	for _, x := range []struct{ words, links int }{{33, 0}, {0, 17}, {33, 17}, {33, 16}, {32, 17}, {63, 0}, {127, 0}, {255, 0}, {256, 0}, {0, 255}, {200, 50}, {1000, 1000}} {
		object := api.Object{Handle: 1, Block: api.Block{Order: plainNeed(x.words + x.links)}, Words: make([]int, x.words), Links: make([]int, x.links)}
		h := api.Heap{Order: 8, Next: 2, Objects: []api.Object{object}}
		h.Free = plainFree(h)
		refused(t, "too many words or links", h)
		noHeap(t, "too many words or links", plainHeap(h))
	}
}

// TestCounts: counts that are greater than what is there, by one and by far.
func TestCounts(t *testing.T) {
	far := []int{1, 2, 3, 32, 33, 255, 256, 257, 65536, 16777216, 2147483646, 2147483647, 1 << 31, 1<<32 - 1}
	laid := plainHeap(some())
	counts := []int{24, 36, 40, 72, 76, 88, 92} // where they lie
	for _, more := range far {
		for _, at := range counts {
			b := slices.Clone(laid)
			n := int(b[at+3]) + more
			copy(b[at:], numbers(n))
			readsHeap(t, "a count that is too great", b)
			noHeap(t, "a count that is too great", b)
		}
		noHeap(t, "objects, and none there", numbers(3, 1, 0, 0, 0, 0, more))
		noHeap(t, "words, and none there", numbers(3, 2, 0, 0, 0, 0, 1, 1, 0, more, 0))
		noHeap(t, "links, and none there", numbers(3, 2, 0, 0, 0, 0, 1, 1, 0, 0, more))
		noHeap(t, "words, and some there", slices.Concat(numbers(3, 2, 0, 0, 0, 0, 1, 1, 0, more, 0), make([]byte, 8*min(more, 300)-1)))
		noHeap(t, "links, and some there", slices.Concat(numbers(3, 2, 0, 0, 0, 0, 1, 1, 0, 0, more), make([]byte, 4*min(more, 300)-1)))
	}
	for _, at := range counts {
		b := slices.Clone(laid)
		if b[at+3] > 0 {
			b[at+3]--
			noHeap(t, "a count that is too small", b)
		}
	}
}

// TestCountsLarge: where bytes tell of far more than may be, and it is all there, nothing is read, nor is
// room made for it.
func TestCountsLarge(t *testing.T) {
	const many = 400000
	least := make([]byte, 16*many)
	for i := range many {
		copy(least[16*i:], numbers(i+1, i%256, 0, 0))
	}
	row := plainRows(rowsOf(1)...)[4:]
	laid := text(plainHeap(some()))
	for name, b := range map[string][]byte{
		"objects":     slices.Concat(numbers(8, 1000001, 0, 0, 0, 0, many), least),
		"words":       slices.Concat(numbers(8, 2, 0, 0, 0, 0, 1, 1, 0, many, 0), make([]byte, 8*many)),
		"links":       slices.Concat(numbers(8, 2, 0, 0, 0, 0, 1, 1, 0, 0, many), make([]byte, 4*many)),
		"state: rows": slices.Concat(laid, numbers(many), bytes.Repeat(row, many)),
		"state: text": slices.Concat(numbers(many), least),
	} {
		var before, after runtime.MemStats
		runtime.ReadMemStats(&before)
		_, e := image.GetHeap(b)
		_, f := image.GetState(b)
		runtime.ReadMemStats(&after)
		if e != api.ErrImageForm || f != api.ErrImageForm {
			t.Errorf("P6.2, P6.3: %d %s: %d, %d", many, name, e, f)
		}
		if took := after.TotalAlloc - before.TotalAlloc; took > uint64(2*len(b)+1<<20) {
			t.Errorf("%d %s: %d bytes of memory for %d", many, name, took, len(b))
		}
	}
}

// TestFull: a region has as many objects as words at most.
func TestFull(t *testing.T) {
	for order := 3; order <= 8; order++ {
		size := 1 << order
		b := numbers(order, 1000, 0, 0, 0, 0, size)
		for i := range size {
			b = slices.Concat(b, numbers(i+1, i, 0, 0))
		}
		if !readsHeap(t, "full", b) {
			t.Errorf("P6.2: %d objects in as many words are not read", size)
		}
		for at := range size + 1 {
			more := slices.Concat(b, numbers(size+1, at, 0, 0))
			copy(more[24:], numbers(size+1))
			noHeap(t, "one more than full", more)
		}
	}
}
