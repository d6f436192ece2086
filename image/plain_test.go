package image_test

import (
	"encoding/binary"
	"math"
	"slices"

	"tumulus/api"
	"tumulus/heap"
)

// Plain bytes, by which the package is measured: laid without a question, and read by a cursor that only
// remembers that something was wrong. A region is one bool a word; the greatest free blocks are looked
// for first.

// numbers lays what has no four bytes as four that are no number.
func numbers(list ...int) []byte {
	var b []byte
	for _, n := range list {
		if n < 0 || n > math.MaxUint32 {
			n = math.MaxUint32
		}
		b = binary.BigEndian.AppendUint32(b, uint32(n))
	}
	return b
}

func ints(list ...int) []byte {
	var b []byte
	for _, n := range list {
		b = binary.BigEndian.AppendUint64(b, uint64(n))
	}
	return b
}

// plainHeap lays any heap, right or not.
func plainHeap(h api.Heap) []byte {
	b := numbers(h.Order, h.Next, h.Tops[0], h.Tops[1], h.Tops[2], h.Tops[3], len(h.Objects))
	for _, o := range h.Objects {
		b = slices.Concat(b, numbers(o.Handle, o.Block.At, len(o.Words), len(o.Links)), ints(o.Words...), numbers(o.Links...))
	}
	return b
}

// plainState lays any state, right or not.
func plainState(s api.State) []byte {
	return slices.Concat(text(plainHeap(s.Heap)), plainRows(s.Rows...))
}

func text(b []byte) []byte {
	return slices.Concat(numbers(len(b)), b)
}

func plainRows(rows ...api.Row) []byte {
	b := numbers(len(rows))
	for _, r := range rows {
		b = slices.Concat(b, numbers(r.Client, r.Seq, int(r.Result.Code)), ints(r.Result.Value))
	}
	return b
}

// cursor reads bytes; bad says that something was not there, or no number.
type cursor struct {
	rest []byte
	bad  bool
}

func (c *cursor) take(n int) []byte {
	if c.bad || len(c.rest) < n {
		c.bad = true
		return make([]byte, 8)
	}
	taken := c.rest[:n]
	c.rest = c.rest[n:]
	return taken
}

func (c *cursor) number() int {
	n := int(binary.BigEndian.Uint32(c.take(4)))
	c.bad = c.bad || n > 2147483647
	return n
}

func (c *cursor) int() int {
	return int(binary.BigEndian.Uint64(c.take(8)))
}

// plainGetHeap is the right heap whose bytes b are, and whether there is one.
func plainGetHeap(b []byte) (api.Heap, bool) {
	c := cursor{rest: b}
	h := api.Heap{Order: c.number(), Next: c.number()}
	for i := range 4 {
		h.Tops[i] = c.number()
	}
	count := c.number()
	for i := 0; i < count && !c.bad; i++ {
		o := api.Object{Handle: c.number()}
		o.Block.At = c.number()
		words, links := c.number(), c.number()
		for j := 0; j < words && !c.bad; j++ {
			o.Words = append(o.Words, c.int())
		}
		for j := 0; j < links && !c.bad; j++ {
			o.Links = append(o.Links, c.number())
		}
		o.Block.Order = plainNeed(words + links)
		h.Objects = append(h.Objects, o)
	}
	if c.bad || len(c.rest) > 0 || h.Order < 3 || h.Order > 8 {
		return api.Heap{}, false
	}
	h.Free = plainFree(h)
	if heap.Check(h) != api.OK {
		return api.Heap{}, false
	}
	return h, true
}

// plainGetState is the right state whose bytes b are, and whether there is one.
func plainGetState(b []byte) (api.State, bool) {
	c := cursor{rest: b}
	size := c.number()
	if c.bad || size > 65536 {
		return api.State{}, false
	}
	h, right := plainGetHeap(c.take(size))
	s := api.State{Heap: h}
	count := c.number()
	last := 0
	for i := 0; i < count && !c.bad; i++ {
		r := api.Row{Client: c.number(), Seq: c.number()}
		r.Result.Code = api.Errno(c.number())
		r.Result.Value = c.int()
		right = right && r.Client > last && r.Client <= 4 && r.Seq >= 1 && r.Seq <= 1000000 && r.Result.Code <= 65535
		last = r.Client
		s.Rows = append(s.Rows, r)
	}
	if c.bad || len(c.rest) > 0 || !right {
		return api.State{}, false
	}
	return s, true
}

// plainNeed is the least order that has room for a word and so many.
func plainNeed(count int) int {
	order := 0
	for 1<<order < 1+count {
		order++
	}
	return order
}

// plainFree is the free blocks of a heap's region: of each order, from the greatest on, those that are.
func plainFree(h api.Heap) []api.Block {
	used := make([]bool, 1<<h.Order)
	use := func(b api.Block) {
		for at := b.At; at < b.At+1<<b.Order && at < len(used); at++ {
			used[at] = true
		}
	}
	for _, o := range h.Objects {
		use(o.Block)
	}
	var free []api.Block
	for order := h.Order; order >= 0; order-- {
		for at := 0; at < len(used); at += 1 << order {
			if !slices.Contains(used[at:at+1<<order], true) {
				b := api.Block{At: at, Order: order}
				use(b)
				free = append(free, b)
			}
		}
	}
	slices.SortFunc(free, func(a, b api.Block) int { return a.At - b.At })
	return free
}

// cloneHeap is a heap that shares no memory with h.
func cloneHeap(h api.Heap) api.Heap {
	h.Free = slices.Clone(h.Free)
	objects := h.Objects
	h.Objects = nil
	for _, o := range objects {
		o.Words, o.Links = slices.Clone(o.Words), slices.Clone(o.Links)
		h.Objects = append(h.Objects, o)
	}
	return h
}

func cloneState(s api.State) api.State {
	return api.State{Heap: cloneHeap(s.Heap), Rows: slices.Clone(s.Rows)}
}

// sameHeap tells whether two heaps are alike; a list that is empty may be nil.
func sameHeap(a, b api.Heap) bool {
	return a.Order == b.Order && a.Next == b.Next && a.Tops == b.Tops && slices.Equal(a.Free, b.Free) &&
		slices.EqualFunc(a.Objects, b.Objects, func(a, b api.Object) bool {
			return a.Handle == b.Handle && a.Block == b.Block && slices.Equal(a.Words, b.Words) && slices.Equal(a.Links, b.Links)
		})
}

func sameState(a, b api.State) bool {
	return sameHeap(a.Heap, b.Heap) && slices.Equal(a.Rows, b.Rows)
}
