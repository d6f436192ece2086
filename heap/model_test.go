package heap_test

import (
	"slices"

	"tumulus/api"
)

// A plain heap, by which the package is measured: objects are looked for one by one, and a region is one
// number a word, that says how many blocks have it.

// plainNeed is the least order that has room for a word and so many.
func plainNeed(count int) int {
	order := 0
	for size := 1; size < 1+count; size *= 2 {
		order++
	}
	return order
}

func plainMayBe(order int, b api.Block) bool {
	if b.Order < 0 || b.Order > order {
		return false
	}
	return slices.Contains(starts(order, b.Order), b.At)
}

// starts is where blocks of an order begin in a region.
func starts(region, order int) []int {
	var list []int
	for at := 0; at < 1<<region; at += 1 << order {
		list = append(list, at)
	}
	return list
}

// cover counts in how many blocks each word of a region lies; the blocks may be in it.
func cover(order int, blocks []api.Block) []int {
	counts := make([]int, 1<<order)
	for _, b := range blocks {
		for i := range 1 << b.Order {
			counts[b.At+i]++
		}
	}
	return counts
}

// freeOf is the free blocks of a region in which blocks have been taken: always the greatest that is free.
func freeOf(order int, taken []api.Block) []api.Block {
	counts := cover(order, taken)
	var free []api.Block
	for at := 0; at < len(counts); {
		if counts[at] > 0 {
			at++
			continue
		}
		b := api.Block{At: at}
		for b.Order < order && isFree(counts, order, api.Block{At: at, Order: b.Order + 1}) {
			b.Order++
		}
		free = append(free, b)
		at += 1 << b.Order
	}
	return free
}

func isFree(counts []int, order int, b api.Block) bool {
	return plainMayBe(order, b) && slices.Max(counts[b.At:b.At+1<<b.Order]) == 0
}

func plainFreeRight(order int, free []api.Block) bool {
	for i, b := range free {
		if !plainMayBe(order, b) {
			return false
		}
		if i > 0 && free[i-1].At >= b.At {
			return false
		}
		for _, other := range free {
			size := 1 << b.Order
			if other.Order == b.Order && b.At/(2*size) == other.At/(2*size) && other != b {
				return false
			}
		}
	}
	return true
}

// plainRight tells whether a heap is right, rule by rule.
func plainRight(h api.Heap) bool {
	if h.Order < 3 || h.Order > 8 || h.Next < 1 || h.Next > 1000001 || !plainFreeRight(h.Order, h.Free) {
		return false
	}
	blocks := slices.Clone(h.Free)
	handles := []int{0}
	for _, o := range h.Objects {
		if o.Handle <= handles[len(handles)-1] || o.Handle >= h.Next {
			return false
		}
		if len(o.Words) > 32 || len(o.Links) > 16 || o.Block.Order != plainNeed(len(o.Words)+len(o.Links)) {
			return false
		}
		if !plainMayBe(h.Order, o.Block) {
			return false
		}
		blocks = append(blocks, o.Block)
		handles = append(handles, o.Handle)
	}
	counts := cover(h.Order, blocks)
	if slices.Min(counts) != 1 || slices.Max(counts) != 1 {
		return false
	}
	links := slices.Clone(h.Tops[:])
	for _, o := range h.Objects {
		links = append(links, o.Links...)
	}
	for _, to := range links {
		if !slices.Contains(handles, to) {
			return false
		}
	}
	return true
}

// plainFind is the object of a handle, nil if there is none.
func plainFind(h *api.Heap, handle int) *api.Object {
	for i := range h.Objects {
		if h.Objects[i].Handle == handle {
			return &h.Objects[i]
		}
	}
	return nil
}

func taken(h api.Heap) []api.Block {
	var blocks []api.Block
	for _, o := range h.Objects {
		blocks = append(blocks, o.Block)
	}
	return blocks
}

func inside(list []int, i int) bool { return i >= 0 && i < len(list) }

func plainLeads(h *api.Heap, to int) bool { return to == 0 || plainFind(h, to) != nil }

// plainDo is what has to come of an operation on a heap that is right.
func plainDo(h api.Heap, o api.Op) (api.Heap, api.Result) {
	next := clone(h)
	object := plainFind(&next, o.H)
	none := object == nil
	switch o.Kind {
	case api.OpAlloc:
		return plainAlloc(next, o.N, o.K)
	case api.OpFree:
		if none {
			return next, api.Result{Code: api.ErrHeapHandle}
		}
		return plainFree(next, o.H), api.Result{}
	case api.OpWrite, api.OpRead:
		if none {
			return next, api.Result{Code: api.ErrHeapHandle}
		}
		if !inside(object.Words, o.I) {
			return next, api.Result{Code: api.ErrHeapIndex}
		}
		if o.Kind == api.OpRead {
			return next, api.Result{Value: object.Words[o.I]}
		}
		object.Words[o.I] = o.V
		return next, api.Result{}
	case api.OpLink, api.OpFollow:
		if none {
			return next, api.Result{Code: api.ErrHeapHandle}
		}
		return next, plainLink(&next, object.Links, o.Kind == api.OpFollow, o)
	case api.OpRoot, api.OpTop:
		// The line of answers copies the roots: they are changed first.
		result := plainLink(&next, next.Tops[:], o.Kind == api.OpTop, o)
		return next, result
	}
	return next, api.Result{Code: api.ErrHeapForm}
}

func plainLink(h *api.Heap, links []int, asks bool, o api.Op) api.Result {
	if !inside(links, o.I) {
		return api.Result{Code: api.ErrHeapIndex}
	}
	if asks {
		return api.Result{Value: links[o.I]}
	}
	if !plainLeads(h, o.T) {
		return api.Result{Code: api.ErrHeapHandle}
	}
	links[o.I] = o.T
	return api.Result{}
}

func plainAlloc(h api.Heap, words, links int) (api.Heap, api.Result) {
	if words < 0 || words > 32 || links < 0 || links > 16 {
		return h, api.Result{Code: api.ErrHeapLarge}
	}
	if h.Next == 1000001 {
		return h, api.Result{Code: api.ErrLimit}
	}
	need := plainNeed(words + links)
	var from *api.Block
	for i, b := range h.Free {
		if b.Order >= need && (from == nil || b.Order < from.Order) {
			from = &h.Free[i]
		}
	}
	if from == nil {
		return h, api.Result{Code: api.ErrHeapSpace}
	}
	object := api.Object{Handle: h.Next, Block: api.Block{At: from.At, Order: need}}
	object.Words, object.Links = make([]int, words), make([]int, links)
	h.Objects = append(h.Objects, object)
	h.Free = freeOf(h.Order, taken(h))
	h.Next++
	return h, api.Result{Value: object.Handle}
}

func plainFree(h api.Heap, handle int) api.Heap {
	var kept []api.Object
	for _, o := range h.Objects {
		if o.Handle == handle {
			continue
		}
		for i := range o.Links {
			if o.Links[i] == handle {
				o.Links[i] = 0
			}
		}
		kept = append(kept, o)
	}
	for i := range h.Tops {
		if h.Tops[i] == handle {
			h.Tops[i] = 0
		}
	}
	h.Objects = kept
	h.Free = freeOf(h.Order, taken(h))
	return h
}

// clone is a heap that shares no memory with h.
func clone(h api.Heap) api.Heap {
	h.Free = slices.Clone(h.Free)
	objects := h.Objects
	h.Objects = nil
	for _, o := range objects {
		o.Words, o.Links = slices.Clone(o.Words), slices.Clone(o.Links)
		h.Objects = append(h.Objects, o)
	}
	return h
}

// same tells whether two heaps are alike; a list that is empty may be nil.
func same(a, b api.Heap) bool {
	return a.Order == b.Order && a.Next == b.Next && a.Tops == b.Tops && slices.Equal(a.Free, b.Free) &&
		slices.EqualFunc(a.Objects, b.Objects, func(a, b api.Object) bool {
			return a.Handle == b.Handle && a.Block == b.Block && slices.Equal(a.Words, b.Words) && slices.Equal(a.Links, b.Links)
		})
}
