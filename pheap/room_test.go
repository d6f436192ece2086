package pheap_test

import (
	"math"
	"testing"

	"tumulus/api"
	"tumulus/pdisk"
	"tumulus/pheap"
	"tumulus/redo"
)

// shape is how a region is filled: objects of so many words and links, each word the same.
type shape struct {
	order, words, links, word int
}

// shapes fill regions in many ways; those that make the most bytes of an image come first.
var shapes = []shape{
	{8, 0, 0, 0}, {8, 31, 0, -1}, {8, 1, 0, -1}, {8, 32, 16, -1},
	{8, 0, 1, 0}, {8, 1, 2, math.MinInt}, {8, 3, 0, -1}, {8, 7, 0, math.MaxInt}, {8, 15, 0, -1}, {8, 31, 0, 0}, {8, 0, 15, 0},
	{7, 31, 0, -1}, {6, 0, 0, 0}, {5, 15, 0, -1}, {4, 1, 2, -1}, {3, 0, 0, 0}, {3, 7, 0, -1},
}

// filled is a heap whose region is as full as objects of that shape make it, all their words set, their links
// and the roots leading to the last one. So many handles come ahead of theirs.
func filled(t *testing.T, s shape, handles int) *pair {
	t.Helper()
	p := newPair(t, s.order)
	do := func(o api.Op) bool {
		r, e := p.heap.Do(o)
		if e != api.OK {
			t.Fatalf("P9.3: Do(%v): %d", o, e)
		}
		return r.Code == api.OK
	}
	for h := range handles {
		do(alloc(0, 0))
		do(free(h + 1))
	}
	end := handles
	for do(alloc(s.words, s.links)) {
		end++
	}
	for h := handles + 1; h <= end; h++ {
		for i := 0; do(write(h, i, s.word)); i++ {
		}
		for i := 0; do(link(h, i, end)); i++ {
		}
	}
	for i := range api.Roots {
		do(root(i, end))
	}
	tells(t, "P9.3: Force", p.heap.Force(), api.OK)
	p.safe(p.heap.Heap())
	return p
}

// turn is an operation that counts on a full heap, and leaves it full: another one with each i.
func turn(h api.Heap, i int) api.Op {
	o := h.Objects[i%len(h.Objects)]
	switch {
	case i%7 > 0 && len(o.Words) > 0:
		return write(o.Handle, i%len(o.Words), o.Words[i%len(o.Words)])
	case i%7 > 0 && len(o.Links) > 0:
		return link(o.Handle, i%len(o.Links), o.Links[i%len(o.Links)])
	}
	return root(i%api.Roots, o.Handle)
}

// fine does an operation that counts on a disk that has not stopped.
func (p *pair) fine(o api.Op) {
	p.t.Helper()
	if r, e := p.do(o); r.Code != api.OK || e != api.OK {
		p.t.Fatalf("P9.2, P9.3: Do(%v): %v, %d", o, r, e)
	}
}

// secure makes the calls that a text names, each a letter.
func (p *pair) secure(calls string) {
	p.t.Helper()
	for _, c := range calls {
		switch c {
		case 'f':
			tells(p.t, "P9.3: Force", p.force(), api.OK)
		case 'c':
			tells(p.t, "P9.3: Checkpoint", p.checkpoint(), api.OK)
		}
	}
}

// TestManyOnFull: no error comes on a disk that has not stopped, on heaps as full as may be, with no Force and
// Checkpoint, and with such behind each so many operations.
func TestManyOnFull(t *testing.T) {
	t.Parallel()
	for _, s := range shapes {
		t.Run("", func(t *testing.T) {
			t.Parallel()
			p := filled(t, s, 300)
			for _, every := range []int{100, 1, 2, 15, 16, 17, 33} {
				for i := range 80 {
					p.fine(turn(p.now(), i))
					if i%every == every-1 {
						p.secure([]string{"f", "c", "fc", "cc"}[i/every%4])
					}
				}
				p.opened()
				p.fine(turn(p.now(), 1))
				p.again(all())
			}
		})
	}
}

// TestManyThousands: the same on small heaps, for long; what was done is there.
func TestManyThousands(t *testing.T) {
	t.Parallel()
	for _, every := range []int{20000, 1, 10, 1000} {
		for _, calls := range []string{"f", "c", "fccf"} {
			t.Run("", func(t *testing.T) {
				t.Parallel()
				p := newPair(t, 3)
				for i := range 10000 {
					if len(p.now().Objects) < 2 {
						p.fine(alloc(i%2, 0))
					} else {
						p.fine(free(p.now().Objects[i%2].Handle))
					}
					if i%every == every-1 {
						p.secure(calls)
					}
				}
				p.opened()
				p.again(nil)
			})
		}
	}
}

// TestManyCheckpoints: many on a heap as full as may be, on which nothing else is done.
func TestManyCheckpoints(t *testing.T) {
	t.Parallel()
	p := filled(t, shapes[1], 0)
	for range 300 {
		p.secure("cf")
	}
	for range 100 {
		p.opened()
	}
	p.again(nil)
}

// TestGreatestHandles: handles of three bytes, in the greatest heaps. Many thousand operations come ahead.
func TestGreatestHandles(t *testing.T) {
	t.Parallel()
	for _, s := range shapes[:2] {
		t.Run("", func(t *testing.T) {
			t.Parallel()
			p := filled(t, s, 1<<16)
			for i := range 100 {
				p.fine(turn(p.now(), i))
			}
			p.again(all())
			p.secure("c")
			p.again(nil)
			if got := greatestCost(p, 60); got > least-6 {
				t.Errorf("P8.2: the log's records cost %d", got)
			}
		})
	}
}

// costs is what the records of the log on a disk cost by chapter 8, each 32 bytes that are begun taken as such.
func costs(t *testing.T, d *pdisk.Disk) int {
	t.Helper()
	_, _, records, e := redo.Open(laid(t, sectors(t, d)), 0, least)
	if e != api.OK {
		t.Fatalf("P8.1: Open: %d", e)
	}
	sum := 0
	for _, r := range records {
		sum += 2 + (len(r)+31)/32
	}
	return sum
}

// greatestCost is the greatest that the log's records cost while so many operations are done, wherever the disk
// stops in that.
func greatestCost(p *pair, ops int) int {
	p.t.Helper()
	p.secure("c")
	from, greatest := sectors(p.t, p.disk), 0
	for n := 0; ; n++ {
		d := laid(p.t, from)
		h, e := pheap.Open(d, p.order)
		d.Stop(n)
		for i := 0; i < ops && e == api.OK; i++ {
			_, e = h.Do(turn(p.now(), i))
		}
		greatest = max(greatest, costs(p.t, d))
		if e == api.OK {
			return greatest
		}
	}
}

// TestLogTakesIt: at no time the log is asked for more than it promises to take (P8.2), on heaps as full as may
// be, behind as many operations as come between two images.
func TestLogTakesIt(t *testing.T) {
	t.Parallel()
	for _, s := range shapes[:4] {
		t.Run("", func(t *testing.T) {
			t.Parallel()
			if got := greatestCost(filled(t, s, 300), 24); got > least-6 || got < 100 {
				t.Errorf("P8.2: %v: the log's records cost %d", s, got)
			}
		})
	}
}

// TestBytesOfAllKinds: words of which each byte is the same, but for some that are 0 ahead.
func TestBytesOfAllKinds(t *testing.T) {
	t.Parallel()
	for _, b := range []int{0, 1, 4, 5, 'o', 'p', 'l', 127, 128, 255} {
		t.Run("", func(t *testing.T) {
			t.Parallel()
			for ahead := range 8 {
				word := 0
				for range 8 - ahead {
					word = word<<8 | b
				}
				p := filled(t, shape{8, 31, 0, word}, 0)
				p.secure("c")
				p.again(nil)
				p.fine(write(8, 30, 1))
				p.opened()
			}
		})
	}
}

// TestLengths: images of each length from that of a heap of words 0 to that of one of words as long as may be,
// each a byte longer than the last one.
func TestLengths(t *testing.T) {
	t.Parallel()
	for _, handles := range [][]int{{1, 2}, {3, 4}, {5, 6}, {7, 8}} {
		t.Run("", func(t *testing.T) {
			t.Parallel()
			p := filled(t, shape{8, 31, 0, 0}, 0)
			for h := 1; h < handles[0]; h++ {
				for i := range 31 {
					p.fine(write(h, i, -1))
				}
			}
			for _, h := range handles {
				for i := range 31 {
					for _, word := range []int{1, 1 << 8, 1 << 16, 1 << 24, 1<<32 | 1<<24, 1<<40 | 1<<24, 1<<48 | 1<<24, -1} {
						p.fine(write(h, i, word))
						p.secure("c")
						p.again(nil)
					}
				}
			}
		})
	}
}
