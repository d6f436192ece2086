package pheap_test

import (
	"testing"

	"tumulus/api"
	"tumulus/heap"
)

// spoil changes all of a heap's lists, their spare memory too.
func spoil(h api.Heap) {
	for i := range h.Objects[:cap(h.Objects)] {
		o := &h.Objects[:cap(h.Objects)][i]
		spoilInts(o.Words)
		spoilInts(o.Links)
		*o = api.Object{Handle: -1}
	}
	for i := range h.Free[:cap(h.Free)] {
		h.Free[:cap(h.Free)][i] = api.Block{At: -1, Order: -1}
	}
}

func spoilInts(list []int) {
	for i := range list[:cap(list)] {
		list[:cap(list)][i] ^= 0xa5a5
	}
}

// spoilTwo spoils what two calls of Heap gave, one behind the other.
func (p *pair) spoilTwo() {
	p.t.Helper()
	first, second := p.heap.Heap(), p.heap.Heap()
	spoil(first)
	if !same(second, p.now()) {
		p.t.Fatalf("R2: two heaps that came out share their memory: %s", brief(second))
	}
	p.same()
	spoil(second)
	p.same()
}

// TestHeapApart: what Heap gave shares no memory with the heap on the disk, nor with what it gives again.
func TestHeapApart(t *testing.T) {
	p := newPair(t, 5)
	p.spoilTwo()
	for i, o := range append(append([]api.Op{}, base...), counted...) {
		p.do(o)
		p.spoilTwo()
		switch i % 5 {
		case 0:
			p.checkpoint()
		case 1:
			p.opened()
		case 2:
			p.again(all())
		case 3:
			p.do(read(1, 0))
			p.do(free(99))
		}
		p.spoilTwo()
	}
	p.disk.Stop(0)
	p.do(root(0, 0))
	p.spoilTwo()
	p.again(nil)
	p.spoilTwo()
}

// TestHeapStays: what Heap gave stays as it is, whatever is done later.
func TestHeapStays(t *testing.T) {
	p := based(t)
	p.secure("c")
	d := dice(9)
	var given, copies []api.Heap
	for range 200 {
		h := p.heap.Heap()
		copied, _ := heap.Do(h, top(0))
		given, copies = append(given, h), append(copies, copied)
		p.do(drawnOp(&d, p.now()))
	}
	p.opened()
	for i := range given {
		if !same(given[i], copies[i]) {
			t.Fatalf("R2: what Heap gave was changed later: %s, not %s", brief(given[i]), brief(copies[i]))
		}
	}
}
