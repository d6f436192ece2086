package pheap_test

import (
	"math"
	"slices"
	"strings"
	"testing"

	"tumulus/api"
	"tumulus/heap"
	"tumulus/pdisk"
	"tumulus/pheap"
)

// noOrders are such as no region has.
var noOrders = []int{2, 9, -1, 0, 1, 10, 255, 256, math.MaxInt, math.MaxInt - 1, math.MinInt, math.MinInt + 1}

// orders are all that a region may have.
var orders = []int{3, 4, 5, 6, 7, 8}

// refused looks that Open tells one of these errors, and no heap.
func refused(t *testing.T, what string, d *pdisk.Disk, order int, want ...api.Errno) {
	t.Helper()
	if p, e := pheap.Open(d, order); p != nil || !slices.Contains(want, e) {
		t.Errorf("%s: Open of order %d: %v, %d, not one of %v alone", what, order, p, e, want)
	}
}

// opens looks at the heap that Open tells.
func opens(t *testing.T, what string, d *pdisk.Disk, want api.Heap) *pheap.Pheap {
	t.Helper()
	p, e := pheap.Open(d, want.Order)
	if e != api.OK || !same(p.Heap(), want) {
		t.Fatalf("%s: Open: %s, %d, not %s", what, brief(p.Heap()), e, brief(want))
	}
	return p
}

// does looks at what comes of an operation.
func does(t *testing.T, what string, p *pheap.Pheap, o api.Op, want int) {
	t.Helper()
	if r, e := p.Do(o); e != api.OK || r.Code != api.OK || r.Value != want {
		t.Fatalf("%s: Do(%v): %v, %d, not %d", what, o, r, e, want)
	}
}

// made is what operations make of a new heap.
func made(order int, ops ...api.Op) api.Heap {
	h, _ := heap.New(order)
	for _, o := range ops {
		h, _ = heap.Do(h, o)
	}
	return h
}

func alloc(words, links int) api.Op { return api.Op{Kind: api.OpAlloc, N: words, K: links} }
func free(h int) api.Op             { return api.Op{Kind: api.OpFree, H: h} }
func write(h, i, v int) api.Op      { return api.Op{Kind: api.OpWrite, H: h, I: i, V: v} }
func link(h, i, to int) api.Op      { return api.Op{Kind: api.OpLink, H: h, I: i, T: to} }
func root(i, to int) api.Op         { return api.Op{Kind: api.OpRoot, I: i, T: to} }
func read(h, i int) api.Op          { return api.Op{Kind: api.OpRead, H: h, I: i} }
func follow(h, i int) api.Op        { return api.Op{Kind: api.OpFollow, H: h, I: i} }
func top(i int) api.Op              { return api.Op{Kind: api.OpTop, I: i} }

func TestExamples(t *testing.T) {
	d := fresh(t, least)
	p := opens(t, "P9.1: a new disk", d, made(3))
	does(t, "P9.2", p, alloc(2, 0), 1)
	tells(t, "P9.3: Force", p.Force(), api.OK)
	does(t, "P9.2", p, write(1, 0, 7), 0)
	d.Crash(nil)
	p = opens(t, "P9.4: the first example", d, made(3, alloc(2, 0)))
	does(t, "P9.4: the first example", p, read(1, 0), 0)
	does(t, "P9.2", p, write(1, 0, 8), 0)
	tells(t, "P9.3: Checkpoint", p.Checkpoint(), api.OK)
	d.Crash(nil)
	p = opens(t, "P9.4: the second example", d, made(3, alloc(2, 0), write(1, 0, 8)))
	does(t, "P9.4: the second example", p, read(1, 0), 8)
	refused(t, "P9.1: the third example", d, 4, api.ErrPheapSpoilt)
	refused(t, "P9.1: the third example", d, 9, api.ErrArg)
}

// TestOpenNoDisk: ErrNil, whatever the order is.
func TestOpenNoDisk(t *testing.T) {
	for _, order := range append(slices.Clone(noOrders), orders...) {
		refused(t, "P9.1, R1: no disk", nil, order, api.ErrNil)
	}
}

// TestOpenOrders: orders that are no region's, on a new disk, which stays one.
func TestOpenOrders(t *testing.T) {
	for _, order := range noOrders {
		d := fresh(t, least)
		refused(t, "P9.1: a new disk, no region's order", d, order, api.ErrArg)
		opens(t, "P9.1: behind a wrong order", d, made(3))
	}
}

// TestOpenEachOrder: a new disk is a heap's of each order that is opened on it; then it is none of another order.
func TestOpenEachOrder(t *testing.T) {
	for _, order := range orders {
		d := fresh(t, least)
		opens(t, "P9.1: a new disk", d, made(order))
		for _, other := range orders {
			if other != order {
				refused(t, "P9.1: a heap's disk of another order", d, other, api.ErrPheapSpoilt)
				refused(t, "P9.1: a heap's disk of another order, behind a crash", crashed(d), other, api.ErrPheapSpoilt)
			}
		}
		for _, none := range noOrders {
			refused(t, "P9.1: a heap's disk, no region's order", d, none, api.ErrArg)
		}
		p := opens(t, "P9.1: a heap's disk", crashed(d), made(order))
		does(t, "P9.2", p, alloc(2, 1), 1)
		opens(t, "P9.1: a heap's disk", d, made(order, alloc(2, 1)))
	}
}

// TestOpenSizes: disks that have too few sectors, as many as there must be, and more.
func TestOpenSizes(t *testing.T) {
	for _, sectors := range []int{1, 8, 64, 254, 255} {
		for _, order := range append(slices.Clone(noOrders), orders...) {
			refused(t, "P9.1: a disk of few sectors", fresh(t, sectors), order, api.ErrArg)
		}
	}
	refused(t, "P9.1: a disk that New did not make", new(pdisk.Disk), 3, api.ErrArg)
	for _, sectors := range []int{256, 257, 258, 320, 1024, 1025, 4095, 4096} {
		p := unopened(t, sectors, 5)
		p.opened()
		for i := range 50 {
			p.do(alloc(i%3, i%2))
			p.do(free(i / 2))
		}
		p.force()
		p.again(nil)
		p.checkpoint()
		p.again(nil)
		p.opened()
	}
}

// TestOpenFirstError: where several errors apply, the one that P9.1 names first.
func TestOpenFirstError(t *testing.T) {
	few := fresh(t, 255)
	put(t, few, 0, []string{"#"})
	few.Stop(0)
	refused(t, "P9.1, R1: stopped, spoilt, and too few sectors", few, 3, api.ErrArg)
	spoilt := fresh(t, least)
	put(t, spoilt, 0, []string{"#"})
	spoilt.Stop(0)
	refused(t, "P9.1, R1: stopped, spoilt, and no region's order", spoilt, 9, api.ErrArg)
	refused(t, "P9.1, R1: stopped and spoilt", spoilt, 3, api.ErrPheapSpoilt, api.ErrRedoSpoilt)
	stopped := fresh(t, least)
	stopped.Stop(0)
	refused(t, "P9.1, R1: stopped, and no region's order", stopped, 2, api.ErrArg)
	refused(t, "P9.1: stopped", stopped, 3, api.ErrDiskDown)
	for _, order := range orders {
		p := newPair(t, order)
		p.do(alloc(1, 0))
		p.disk.Stop(0)
		for _, other := range orders {
			if other != order {
				refused(t, "P9.1, R1: stopped, and of another order", p.disk, other, api.ErrPheapSpoilt)
			}
		}
		refused(t, "P9.1: stopped", p.disk, order, api.ErrDiskDown)
		refused(t, "P9.1, R1: stopped, and no region's order", p.disk, 9, api.ErrArg)
	}
}

// TestOpenRefused: a disk that is refused stays as it is, what is dirty on it too; it is asked for no call, and
// the heap that is in use on it goes on.
func TestOpenRefused(t *testing.T) {
	p := newPair(t, 4)
	p.do(alloc(3, 1))
	p.force()
	for i := range 40 {
		p.do(write(1, i%3, i))
		before := sectors(t, p.disk)
		p.disk.Stop(1)
		refused(t, "P9.1: another order", p.disk, 3, api.ErrPheapSpoilt)
		refused(t, "P9.1: no region's order", p.disk, 9, api.ErrArg)
		if p.disk.Down() || !slices.Equal(sectors(t, p.disk), before) {
			t.Fatal("P9.1: a disk that was refused was written or flushed")
		}
		p.disk.Stop(1000000)
		switch i % 4 {
		case 0:
			p.force()
		case 1:
			p.checkpoint()
		case 2:
			continue
		}
		p.crash(nil)
		refused(t, "P9.1: another order", p.disk, 5, api.ErrPheapSpoilt)
		p.opened()
	}
	p.do(write(1, 0, 77))
	refused(t, "P9.1: another order", p.disk, 3, api.ErrPheapSpoilt)
	p.crash(nil)
	p.opened()
	if now := p.now(); now.Objects[0].Words[0] == 77 {
		t.Error("P9.1: what was refused made what was not forced safe")
	}
}

// TestOpenAgain: of a disk that did not crash Open tells what there was, and it is safe then.
func TestOpenAgain(t *testing.T) {
	p := newPair(t, 4)
	for i := range 120 {
		p.do(alloc(i%4, i%3))
		p.do(free(i/2 + 1))
		if i%5 > 0 {
			continue
		}
		p.opened()
		p.opened()
		p.do(root(0, i))
		p.opened()
		p.again(nil)
		p.do(root(1, i))
		p.again(all())
		p.again(nil)
	}
}

// TestSteps: Force and Checkpoint on a new heap, behind operations, and twice in a row; each makes safe.
func TestSteps(t *testing.T) {
	for _, order := range orders {
		for _, steps := range []string{"f", "c", "ff", "cc", "fc", "cf", "of", "oc", "off", "occ", "ofc", "ocf", "ofof", "ococ", "oooof", "ooooc", "occcccf", strings.Repeat("o", 40) + "f", strings.Repeat("o", 40) + "cc"} {
			p := newPair(t, order)
			for i, s := range steps {
				switch s {
				case 'o':
					p.do(alloc(i%4, 1))
					p.do(free(i - 2))
				case 'f':
					tells(t, "P9.3: Force", p.force(), api.OK)
				case 'c':
					tells(t, "P9.3: Checkpoint", p.checkpoint(), api.OK)
				}
			}
			before := p.now()
			p.again(nil)
			if !same(p.now(), before) {
				t.Errorf("P9.5: %s: %s, not %s", steps, brief(p.now()), brief(before))
			}
			p.do(root(0, p.now().Next-1))
			p.again(nil)
		}
	}
}

// TestNoHeap: no heap tells ErrNil, or nothing; likewise one that Open did not make.
func TestNoHeap(t *testing.T) {
	for _, p := range []*pheap.Pheap{nil, new(pheap.Pheap)} {
		for kind := api.OpKind(-1); kind < 10; kind++ {
			for _, n := range []int{0, 1, -1, math.MaxInt, math.MinInt} {
				if r, e := p.Do(api.Op{Kind: kind, H: n, I: n, N: n, K: n, V: n, T: n}); e != api.ErrNil || (r != api.Result{}) {
					t.Errorf("R3: Do of no heap: %v, %d", r, e)
				}
			}
		}
		tells(t, "R3: Force of no heap", p.Force(), api.ErrNil)
		tells(t, "R3: Checkpoint of no heap", p.Checkpoint(), api.ErrNil)
		if h := p.Heap(); !same(h, api.Heap{}) {
			t.Errorf("R3: Heap of no heap: %v", h)
		}
	}
}
