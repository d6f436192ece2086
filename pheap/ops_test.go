package pheap_test

import (
	"math"
	"testing"

	"tumulus/api"
	"tumulus/heap"
)

// base are operations that count, each on a heap of order 4 that the ones ahead of it made: behind them there
// are objects 1 (of two words and a link), 3 and 4.
var base = []api.Op{alloc(2, 1), alloc(0, 0), alloc(1, 2), free(2), alloc(3, 0), write(1, 1, -7), link(3, 0, 1), link(3, 1, 4), root(0, 3), root(3, 1)}

// counted are further operations that count, on that heap.
var counted = []api.Op{
	alloc(0, 0), alloc(1, 0), alloc(0, 1),
	free(1), free(3), free(4),
	write(1, 0, 5), write(1, 1, math.MinInt), write(4, 2, math.MaxInt), write(3, 0, 0), write(4, 0, 1<<40), write(1, 1, -7),
	link(1, 0, 1), link(1, 0, 4), link(3, 1, 0), link(3, 0, 1),
	root(0, 0), root(1, 4), root(2, 1), root(3, 3), root(3, 1),
	{Kind: api.OpAlloc, H: -1, I: math.MaxInt, V: math.MinInt, T: 9},
	{Kind: api.OpFree, H: 1, I: math.MaxInt, N: -5, K: 77, V: math.MinInt, T: 9},
	{Kind: api.OpRoot, H: 99, I: 1, N: 99, K: 99, V: -1, T: 4},
}

// asked are operations that only ask, on that heap.
var asked = []api.Op{read(1, 0), read(1, 1), read(4, 2), follow(1, 0), follow(3, 0), follow(3, 1), top(0), top(1), top(3)}

// failing are operations that heap.Do refuses on that heap: for each number of theirs such as are wrong.
func failing() []api.Op {
	list := []api.Op{alloc(5, 5), alloc(32, 16), alloc(4, 0), {}, {Kind: 9}, {Kind: -1}, {Kind: math.MaxInt}, {Kind: math.MinInt}}
	for _, n := range []int{-1, 33, math.MaxInt, math.MinInt} {
		list = append(list, alloc(n, 0), alloc(0, n), alloc(n, n))
	}
	list = append(list, alloc(0, 17))
	for _, h := range []int{0, -1, 2, 5, 6, 1000000, 1000001, math.MaxInt, math.MinInt} {
		list = append(list, free(h), write(h, 0, 1), link(h, 0, 0), link(h, 0, 1), read(h, 0), follow(h, 0))
		if h != 0 {
			list = append(list, link(3, 0, h), root(0, h))
		}
	}
	for _, i := range []int{-1, 4, 5, 32, math.MaxInt, math.MinInt} {
		list = append(list, write(1, i, 1), write(4, i, 1), link(1, i, 0), link(3, i, 1), root(i, 0), root(i, 1), read(1, i), follow(1, i), top(i))
	}
	return append(list, write(1, 2, 1), link(1, 1, 0), link(4, 0, 0), read(3, 1), follow(4, 0))
}

// based is a heap on which base was done.
func based(t *testing.T) *pair {
	t.Helper()
	p := newPair(t, 4)
	for _, o := range base {
		if r, e := p.do(o); r.Code != api.OK || e != api.OK {
			t.Fatalf("P9.2: Do(%v): %v, %d", o, r, e)
		}
	}
	return p
}

// silent looks that a call asks nothing of the disk: it writes nothing, and a Stop that is in force stays so.
func (p *pair) silent(what string, call func()) {
	p.t.Helper()
	before := sectors(p.t, p.disk)
	p.disk.Stop(1)
	call()
	down := p.disk.Down()
	p.disk.Stop(1000000)
	for at, text := range sectors(p.t, p.disk) {
		if text != before[at] || down {
			p.t.Fatalf("P9.2: %s asks something of the disk", what)
		}
	}
}

// TestCounted: each operation that counts makes what heap.Do makes, is there behind an Open, and is lost or not
// as P9.4 says.
func TestCounted(t *testing.T) {
	for _, o := range counted {
		p := based(t)
		before := p.now()
		if r, e := p.do(o); r.Code != api.OK || e != api.OK || len(p.made) < 2 {
			t.Errorf("P9.2: Do(%v): %v, %d", o, r, e)
		}
		if want, _ := heap.Do(before, o); !same(p.now(), want) {
			t.Errorf("P9.2: Do(%v) makes %s, not %s", o, brief(p.now()), brief(want))
		}
		p.opened()
		p.again(nil)
		p.checkpoint()
		p.again(nil)
		p.do(o)
		p.force()
		p.again(nil)
		p.do(o)
		p.again(all())
		p.do(o)
		p.again(nil)
	}
}

// TestAsked: each operation that only asks answers as heap.Do, changes nothing, and asks nothing of the disk,
// also of one that has stopped.
func TestAsked(t *testing.T) {
	p := based(t)
	for range 3 {
		for _, o := range asked {
			p.silent("an operation that only asks", func() {
				if r, e := p.do(o); r.Code != api.OK || e != api.OK {
					t.Errorf("P9.2: Do(%v): %v, %d", o, r, e)
				}
			})
		}
		p.opened()
	}
	p.disk.Stop(0)
	for _, o := range asked {
		if r, e := p.do(o); r.Code != api.OK || e != api.OK {
			t.Errorf("P9.2: Do(%v) on a disk that has stopped: %v, %d", o, r, e)
		}
	}
	p.again(nil)
}

// TestFailing: each operation that heap.Do refuses is told so, changes nothing, and asks nothing of the disk,
// also of one that has stopped.
func TestFailing(t *testing.T) {
	p := based(t)
	for _, o := range failing() {
		p.silent("an operation that fails", func() {
			if r, e := p.do(o); r.Code == api.OK || e != api.OK {
				t.Errorf("P9.2: Do(%v): %v, %d", o, r, e)
			}
		})
	}
	p.opened()
	p.disk.Stop(0)
	for _, o := range failing() {
		if r, e := p.do(o); r.Code == api.OK || e != api.OK {
			t.Errorf("P9.2: Do(%v) on a disk that has stopped: %v, %d", o, r, e)
		}
	}
	p.again(nil)
}

// TestSilentMany: however many operations ask or fail, they are none that count: the ones that were done ahead
// of them are as safe as they were, and the ones behind too.
func TestSilentMany(t *testing.T) {
	p := based(t)
	p.silent("many operations that don't count", func() {
		for i := range 500 {
			p.do(asked[i%len(asked)])
			p.do(failing()[i%60])
		}
	})
	p.do(write(1, 0, 1))
	p.again(all())
	for _, o := range asked {
		p.do(o)
	}
}

// TestHeapSilent: Heap asks nothing of the disk, and answers of one that has stopped.
func TestHeapSilent(t *testing.T) {
	p := based(t)
	p.silent("Heap", p.same)
	p.disk.Stop(0)
	p.same()
	p.do(free(1))
	p.do(free(3))
	p.same()
	p.again(nil)
}

// TestStopped: on a disk that has stopped what counts is not done, and the heap is as it was, however far from
// an image it is.
func TestStopped(t *testing.T) {
	for n := range 40 {
		p := based(t)
		for i := range n {
			p.do(write(1, 0, i))
		}
		p.disk.Stop(0)
		for _, o := range counted {
			if r, e := p.do(o); e != api.ErrDiskDown || (r != api.Result{}) {
				t.Errorf("P9.2: Do(%v) on a disk that has stopped: %v, %d", o, r, e)
			}
		}
		tells(t, "P9.3: Force on a disk that has stopped", p.force(), api.ErrDiskDown)
		tells(t, "P9.3: Checkpoint on a disk that has stopped", p.checkpoint(), api.ErrDiskDown)
		refused(t, "P9.1: a disk that has stopped", p.disk, 4, api.ErrDiskDown)
		p.again(nil)
		p.do(write(1, 0, 99))
		p.force()
		p.again(nil)
	}
}
