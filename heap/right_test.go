package heap_test

import (
	"math"
	"slices"
	"testing"

	"tumulus/api"
	"tumulus/heap"
)

// right looks that a heap is right, and stays as it is.
func right(t *testing.T, name string, h api.Heap) {
	t.Helper()
	before := clone(h)
	if e := heap.Check(h); e != api.OK || !plainRight(h) {
		t.Errorf("P5.1: %s: Check(%+v): %d, plain %v", name, h, e, plainRight(h))
	}
	if !same(h, before) {
		t.Errorf("R2: %s: Check wrote into %+v", name, before)
	}
}

// wrong looks that a heap is not right, and that no operation is done on it.
func wrong(t *testing.T, name string, h api.Heap) {
	t.Helper()
	before := clone(h)
	if e := heap.Check(h); e != api.ErrArg || plainRight(h) {
		t.Errorf("P5.1: %s: Check(%+v): %d, plain %v", name, h, e, plainRight(h))
	}
	for _, kind := range kinds {
		for _, o := range []api.Op{{}, {H: 1, T: 1}, {H: 99, I: -1, N: 33, K: 17, T: 99}} {
			o.Kind = kind
			if next, result := heap.Do(h, o); result != (api.Result{Code: api.ErrArg}) || !same(next, api.Heap{}) {
				t.Errorf("P5.2: %s: Do(%+v, %+v): %+v, %+v", name, h, o, next, result)
			}
		}
	}
	if !same(h, before) {
		t.Errorf("R2: %s: %+v became %+v", name, before, h)
	}
}

// one is a heap of an order with one object in its first words, that has so many words and links.
func one(order, words, links, need int) api.Heap {
	object := api.Object{Handle: 1, Block: api.Block{Order: need}, Words: make([]int, words), Links: make([]int, links)}
	return api.Heap{Order: order, Next: 2, Objects: []api.Object{object}, Free: freeOf(order, []api.Block{object.Block})}
}

func TestRight(t *testing.T) {
	right(t, "some objects", some())
	for order := api.MinOrder; order <= api.MaxOrder; order++ {
		h := fresh(t, order)
		right(t, "no objects", h)
		for _, next := range []int{2, 999999, 1000000, 1000001} {
			h.Next = next
			right(t, "no objects, a Next that is not 1", h)
		}
		right(t, "one object", one(order, 0, 0, 0))
	}
	for words := range api.MaxWords + 1 {
		for links := range api.MaxLinks + 1 {
			right(t, "one object", one(6, words, links, plainNeed(words+links)))
		}
	}
	right(t, "full of the least", fill(t, 8, 0, 0))
	right(t, "full of the greatest", fill(t, 8, 32, 16))
	h := one(3, 0, 2, 2)
	h.Objects[0].Links[0], h.Tops = 1, [api.Roots]int{1, 1, 0, 1}
	right(t, "an object with a link to itself", h)
	h = one(3, 3, 0, 2)
	h.Objects[0].Words = []int{math.MinInt, -1, math.MaxInt}
	right(t, "words that are any ints", h)
	h.Objects[0].Handle, h.Next, h.Tops[3] = 1000000, 1000001, 1000000
	right(t, "the last handle", h)
	h = some()
	h.Objects[0].Block, h.Objects[2].Block = h.Objects[2].Block, h.Objects[0].Block
	right(t, "blocks that do not rise with the handles", h)
}

// broken is a change of the heap of some() that breaks one rule.
type broken struct {
	name   string
	change func(h *api.Heap)
}

var brokenHandles = []broken{
	{"handles that fall", func(h *api.Heap) { h.Objects[1].Handle, h.Objects[2].Handle = 4, 3 }},
	{"objects that fall", func(h *api.Heap) { h.Objects[0], h.Objects[1] = h.Objects[1], h.Objects[0] }},
	{"a handle twice", func(h *api.Heap) { h.Objects[1].Handle = 4 }},
	{"a handle twice, below", func(h *api.Heap) { h.Objects[1].Handle = 1 }},
	{"a handle that is Next", func(h *api.Heap) { h.Next, h.Objects[1].Handle, h.Objects[2].Handle = 5, 4, 5; leadTo(h, 1) }},
	{"a Next that is the last handle", func(h *api.Heap) { h.Next = 4 }},
	{"a Next below handles", func(h *api.Heap) { h.Next = 3 }},
	{"a Next of 1 with objects", func(h *api.Heap) { h.Next = 1 }},
	{"a handle above Next", func(h *api.Heap) { h.Objects[2].Handle = 7; leadTo(h, 1) }},
	{"a handle that is 0", func(h *api.Heap) { h.Objects[0].Handle = 0; leadTo(h, 4) }},
	{"a handle below 0", func(h *api.Heap) { h.Objects[0].Handle = -1; leadTo(h, 4) }},
	{"the least handle", func(h *api.Heap) { h.Objects[0].Handle = math.MinInt; leadTo(h, 4) }},
	{"the greatest handle", func(h *api.Heap) { h.Objects[2].Handle = math.MaxInt; leadTo(h, 1) }},
	{"a Next of 0", func(h *api.Heap) { h.Next = 0 }},
	{"a Next above the limit", func(h *api.Heap) { h.Next = 1000002 }},
	{"the greatest Next", func(h *api.Heap) { h.Next = math.MaxInt }},
	{"a handle above the limit", func(h *api.Heap) { h.Next = 1000001; h.Objects[2].Handle = 1000001; leadTo(h, 1) }},
	{"a handle and Next above the limit", func(h *api.Heap) { h.Next = 1000002; h.Objects[2].Handle = 1000001; leadTo(h, 1) }},
}

var brokenBlocks = []broken{
	{"a block of a greater order", func(h *api.Heap) { h.Objects[1].Block = api.Block{At: 4, Order: 1}; h.Free = h.Free[1:] }},
	{"a block of a smaller order", func(h *api.Heap) {
		h.Objects[0].Block.Order = 1
		h.Free = slices.Insert(h.Free, 0, api.Block{At: 2, Order: 1})
	}},
	{"too many words for the block", func(h *api.Heap) { h.Objects[0].Words = []int{1, 2, 3} }},
	{"too few words for the block", func(h *api.Heap) { h.Objects[0].Words, h.Objects[0].Links = nil, nil }},
	{"too many links for the block", func(h *api.Heap) { h.Objects[1].Links = []int{0} }},
	{"a block without an order", func(h *api.Heap) { h.Objects[1].Block.Order = -1 }},
	{"a block of the greatest order", func(h *api.Heap) { h.Objects[1].Block.Order = math.MaxInt }},
	{"a block that a shift makes 1", func(h *api.Heap) { h.Objects[1].Block.Order = 64 }},
	{"a block behind the region", func(h *api.Heap) { h.Objects[1].Block.At = 16; h.Free = without(h, 1) }},
	{"a block far behind the region", func(h *api.Heap) { h.Objects[2].Block.At = 1 << 40; h.Free = without(h, 2) }},
	{"a block ahead of the region", func(h *api.Heap) { h.Objects[1].Block.At = -1; h.Free = without(h, 1) }},
	{"a greater block ahead of the region", func(h *api.Heap) { h.Objects[2].Block.At = -4; h.Free = without(h, 2) }},
	{"a block at the least place", func(h *api.Heap) { h.Objects[2].Block.At = math.MinInt; h.Free = without(h, 2) }},
	{"a block at the greatest place", func(h *api.Heap) { h.Objects[1].Block.At = math.MaxInt; h.Free = without(h, 1) }},
	{"a block at no multiple of its size", func(h *api.Heap) {
		h.Objects[2].Block.At = 9
		h.Free = []api.Block{{At: 4}, {At: 6, Order: 1}, {At: 8}, {At: 13}, {At: 14, Order: 1}}
	}},
	{"a word in the blocks of two objects", func(h *api.Heap) { h.Objects[1].Block.At = 3; h.Free = without(h, 1) }},
	{"two objects in one block", func(h *api.Heap) { h.Objects[2].Block.At = 0; h.Free = without(h, 2) }},
	{"a word in an object's and a free block", func(h *api.Heap) { h.Objects[1].Block.At = 4 }},
	{"an object's block in a greater free one", func(h *api.Heap) { h.Objects[1].Block.At = 13 }},
	{"an object's block that is free", func(h *api.Heap) { h.Free = freeOf(4, taken(*h)[1:]) }},
	{"a word in no block", func(h *api.Heap) { h.Free = h.Free[1:] }},
	{"the last words in no block", func(h *api.Heap) { h.Free = h.Free[:2] }},
	{"words in no block between", func(h *api.Heap) { h.Free = slices.Delete(h.Free, 1, 2) }},
	{"nothing free", func(h *api.Heap) { h.Free = nil }},
	{"the first words in no block", func(h *api.Heap) { h.Objects = h.Objects[1:]; leadTo(h, 4) }},
}

var brokenFree = []broken{
	{"free blocks that fall", func(h *api.Heap) { h.Free[0], h.Free[1] = h.Free[1], h.Free[0] }},
	{"a free block twice", func(h *api.Heap) { h.Free = slices.Insert(h.Free, 0, h.Free[0]) }},
	{"free twins", func(h *api.Heap) {
		h.Free = append(h.Free[:2], api.Block{At: 12, Order: 1}, api.Block{At: 14, Order: 1})
	}},
	{"free twins of a word", func(h *api.Heap) { h.Free = slices.Replace(h.Free, 1, 2, api.Block{At: 6}, api.Block{At: 7}) }},
	{"a free block at no multiple of its size", func(h *api.Heap) {
		h.Free = append(h.Free[:2], api.Block{At: 12}, api.Block{At: 13, Order: 1}, api.Block{At: 15})
	}},
	{"a free block behind the region", func(h *api.Heap) { h.Free = append(h.Free, api.Block{At: 16, Order: 4}) }},
	{"a free block that is too great", func(h *api.Heap) { h.Free[2].Order = 3 }},
	{"a free block ahead of the region", func(h *api.Heap) { h.Free = slices.Insert(h.Free, 0, api.Block{At: -1}) }},
	{"a free block without an order", func(h *api.Heap) { h.Free[0].Order = -1 }},
	{"a free block of no words more", func(h *api.Heap) { h.Free = append(h.Free, api.Block{At: 16, Order: -1}) }},
	{"a free block of the greatest order", func(h *api.Heap) { h.Free[0].Order = math.MaxInt }},
	{"a free block at the least place", func(h *api.Heap) { h.Free = slices.Insert(h.Free, 0, api.Block{At: math.MinInt}) }},
}

var brokenLinks = []broken{
	{"a link to no object", func(h *api.Heap) { h.Objects[0].Links[0] = 2 }},
	{"a link to what is gone", func(h *api.Heap) { h.Objects[2].Links[0] = 5 }},
	{"a link to Next", func(h *api.Heap) { h.Objects[2].Links[1] = 6 }},
	{"a link below 0", func(h *api.Heap) { h.Objects[2].Links[1] = -1 }},
	{"the greatest link", func(h *api.Heap) { h.Objects[2].Links[1] = math.MaxInt }},
	{"the least link", func(h *api.Heap) { h.Objects[0].Links[0] = math.MinInt }},
	{"a root to no object", func(h *api.Heap) { h.Tops[0] = 2 }},
	{"a second root to what is gone", func(h *api.Heap) { h.Tops[1] = 5 }},
	{"a third root to Next", func(h *api.Heap) { h.Tops[2] = 6 }},
	{"a last root below 0", func(h *api.Heap) { h.Tops[3] = -1 }},
	{"the greatest root", func(h *api.Heap) { h.Tops[3] = math.MaxInt }},
}

// leadTo makes all links and roots lead to one handle or nowhere, so that another one may go.
func leadTo(h *api.Heap, handle int) {
	for _, o := range h.Objects {
		for i := range o.Links {
			o.Links[i] = handle
		}
	}
	h.Tops = [api.Roots]int{handle}
}

// without is what is free without the object in place i.
func without(h *api.Heap, i int) []api.Block {
	return freeOf(h.Order, slices.Delete(taken(*h), i, i+1))
}

func TestBroken(t *testing.T) {
	for _, x := range slices.Concat(brokenHandles, brokenBlocks, brokenFree, brokenLinks) {
		h := some()
		x.change(&h)
		wrong(t, x.name, h)
	}
}

func TestBrokenOrder(t *testing.T) {
	wrong(t, "zero heap", api.Heap{})
	for _, order := range noRegions {
		h := api.Heap{Order: order, Next: 1}
		wrong(t, "an order without blocks", h)
		h.Free = []api.Block{{Order: order}}
		wrong(t, "an order that is no region's", h)
	}
	for _, order := range []int{3, 5, 8} {
		h := some()
		h.Order = order
		wrong(t, "another region's order", h)
	}
	h := some()
	h.Order, h.Objects, h.Tops, h.Free = 2, h.Objects[:1], [api.Roots]int{1}, nil
	h.Objects[0].Links[0] = 1
	wrong(t, "a region of four words, full", h)
	h.Order, h.Free = 3, []api.Block{{At: 4, Order: 2}}
	right(t, "the same in one of eight", h)
}

func TestBrokenNext(t *testing.T) {
	for order := api.MinOrder; order <= api.MaxOrder; order++ {
		h := fresh(t, order)
		for _, next := range []int{0, -1, 1000002, math.MaxInt, math.MinInt} {
			h.Next = next
			wrong(t, "a Next beyond its bounds, without objects", h)
		}
	}
}

// TestBrokenNumbers: objects of more words or links than there may be, in blocks that would have room.
func TestBrokenNumbers(t *testing.T) {
	for _, x := range []struct{ words, links int }{{33, 0}, {0, 17}, {33, 17}, {33, 16}, {32, 17}, {63, 0}, {0, 63}, {127, 0}, {255, 0}, {200, 50}} {
		wrong(t, "too many words or links", one(8, x.words, x.links, plainNeed(x.words+x.links)))
		for order := -1; order <= 8; order++ {
			h := one(8, x.words, x.links, max(order, 0))
			h.Objects[0].Block.Order = order
			wrong(t, "too many words or links, in a block of any order", h)
		}
	}
	wrong(t, "a block that the region has no room for", api.Heap{Order: 3, Next: 2, Objects: one(4, 8, 0, 4).Objects})
}

// TestNumbersChanged: heaps that are right, of which one number is changed by a little, are right just if
// the plain heap says so.
func TestNumbersChanged(t *testing.T) {
	d := dice(5)
	for order := api.MinOrder; order <= 5; order++ {
		h := fresh(t, order)
		for range 600 {
			h, _ = do(t, h, anyOp(&d, h))
			for range 10 {
				changed := clone(h)
				at := pick(&d, numbers(&changed)...)
				*at += pick(&d, -16, -8, -4, -2, -1, 1, 2, 4, 8, 16)
				want := api.ErrArg
				if plainRight(changed) {
					want = api.OK
				}
				if e := heap.Check(changed); e != want {
					t.Fatalf("P5.1: Check(%+v): %d, not %d", changed, e, want)
				}
			}
		}
	}
}

// numbers are the places of all numbers in a heap that a rule is about.
func numbers(h *api.Heap) []*int {
	all := []*int{&h.Order, &h.Next}
	for i := range h.Tops {
		all = append(all, &h.Tops[i])
	}
	for i := range h.Free {
		all = append(all, &h.Free[i].At, &h.Free[i].Order)
	}
	for i := range h.Objects {
		o := &h.Objects[i]
		all = append(all, &o.Handle, &o.Block.At, &o.Block.Order)
		for j := range o.Links {
			all = append(all, &o.Links[j])
		}
	}
	return all
}
