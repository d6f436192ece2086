package pheap_test

import (
	"fmt"
	"os"
	"runtime/debug"
	"slices"
	"testing"

	"tumulus/api"
	"tumulus/heap"
	"tumulus/pdisk"
	"tumulus/pheap"
)

// TestMain lets the collector run less often: disks are many here, and soon gone.
func TestMain(m *testing.M) {
	debug.SetGCPercent(400)
	os.Exit(m.Run())
}

// least is how many sectors a heap's disk has at least.
const least = 256

// pair is a heap on a disk, and what it may be by the document's words.
type pair struct {
	t     *testing.T
	disk  *pdisk.Disk
	order int
	heap  *pheap.Pheap
	// made is what it was when it was last safe, and what each operation that counted since then made of it.
	made []api.Heap
	// failed is what that operation makes whose Do answered ErrDiskDown first since then, if there was one.
	failed []api.Heap
	// crashed and lost tell whether there was a crash since it was opened last, and one that did not keep all.
	crashed, lost bool
}

// newPair is a heap on a new disk of the least size.
func newPair(t *testing.T, order int) *pair {
	t.Helper()
	p := unopened(t, least, order)
	p.opened()
	return p
}

// unopened is a new disk on which no heap was opened yet.
func unopened(t *testing.T, sectors, order int) *pair {
	t.Helper()
	h, e := heap.New(order)
	if e != api.OK {
		t.Fatalf("P5.1: New(%d): %d", order, e)
	}
	return &pair{t: t, disk: fresh(t, sectors), order: order, made: []api.Heap{h}}
}

func (p *pair) now() api.Heap {
	return p.made[len(p.made)-1]
}

// safe is what there is when all of it is safe.
func (p *pair) safe(h api.Heap) {
	p.made, p.failed = []api.Heap{h}, nil
}

// may is what Open may tell.
func (p *pair) may() []api.Heap {
	switch {
	case !p.crashed:
		return []api.Heap{p.now()}
	case !p.lost:
		return append([]api.Heap{p.now()}, p.failed...)
	}
	return append(slices.Clone(p.made), p.failed...)
}

// open opens the heap anew, and tells whether the disk let it.
func (p *pair) open() bool {
	p.t.Helper()
	down := p.disk.Down()
	h, e := pheap.Open(p.disk, p.order)
	if e == api.ErrDiskDown && p.disk.Down() && h == nil {
		return false
	}
	if e != api.OK || h == nil || down {
		p.t.Fatalf("P9.1: Open: %v, %d (stopped: %v)", h, e, down)
	}
	got := h.Heap()
	if heap.Check(got) != api.OK || !slices.ContainsFunc(p.may(), func(m api.Heap) bool { return same(m, got) }) {
		p.t.Fatalf("P9.1, P9.4: Open tells %s, not one of %s", brief(got), brief(p.may()...))
	}
	p.heap, p.crashed, p.lost = h, false, false
	p.safe(got)
	p.same()
	return true
}

// opened opens it on a disk that goes on.
func (p *pair) opened() {
	p.t.Helper()
	if !p.open() {
		p.t.Fatal("P9.1: Open: ErrDiskDown")
	}
}

// same looks at the heap.
func (p *pair) same() {
	p.t.Helper()
	if got := p.heap.Heap(); !same(got, p.now()) || heap.Check(got) != api.OK {
		p.t.Fatalf("P9.2: Heap: %s, not %s", brief(got), brief(p.now()))
	}
}

// counts tells whether an operation counts.
func counts(o api.Op, r api.Result) bool {
	return r.Code == api.OK && !slices.Contains([]api.OpKind{api.OpRead, api.OpFollow, api.OpTop}, o.Kind)
}

// do does an operation, and answers what came of it; the error is told where it counts alone.
func (p *pair) do(o api.Op) (api.Result, api.Errno) {
	p.t.Helper()
	down := p.disk.Down()
	next, want := heap.Do(p.now(), o)
	r, e := p.heap.Do(o)
	switch {
	case !counts(o, want) && e == api.OK && r == want && p.disk.Down() == down:
	case counts(o, want) && e == api.OK && r == want && !down:
		p.made = append(p.made, next)
	case counts(o, want) && e == api.ErrDiskDown && r == api.Result{} && p.disk.Down():
		if p.failed == nil {
			p.failed = []api.Heap{next}
		}
	default:
		p.t.Fatalf("P9.2: Do(%v) of %s: %v, %d, not %v (stopped: %v, then %v)", o, brief(p.now()), r, e, want, down, p.disk.Down())
	}
	p.same()
	return r, e
}

func (p *pair) force() api.Errno {
	p.t.Helper()
	return p.secured("Force", p.heap.Force)
}

func (p *pair) checkpoint() api.Errno {
	p.t.Helper()
	return p.secured("Checkpoint", p.heap.Checkpoint)
}

// secured makes a call that makes the heap safe.
func (p *pair) secured(what string, call func() api.Errno) api.Errno {
	p.t.Helper()
	down := p.disk.Down()
	e := call()
	switch {
	case e == api.ErrDiskDown && p.disk.Down():
	case e == api.OK && !down:
		p.safe(p.now())
	default:
		p.t.Fatalf("P9.3: %s (stopped: %v): %d", what, down, e)
	}
	p.same()
	return e
}

// crash crashes the disk.
func (p *pair) crash(keep []bool) {
	p.t.Helper()
	if e := p.disk.Crash(keep); e != api.OK {
		p.t.Fatalf("P7.4: Crash: %d", e)
	}
	p.crashed = true
	// A crash keeps all, if its list is as long as the longest disk and has nothing but true.
	p.lost = p.lost || len(keep) < api.MaxSectors || slices.Contains(keep, false)
}

// again crashes the disk, and opens the heap.
func (p *pair) again(keep []bool) {
	p.t.Helper()
	p.crash(keep)
	p.opened()
}

// same tells whether two heaps are alike; a list that is empty may be nil.
func same(a, b api.Heap) bool {
	return a.Order == b.Order && a.Next == b.Next && a.Tops == b.Tops && slices.Equal(a.Free, b.Free) &&
		slices.EqualFunc(a.Objects, b.Objects, func(a, b api.Object) bool {
			return a.Handle == b.Handle && a.Block == b.Block && slices.Equal(a.Words, b.Words) && slices.Equal(a.Links, b.Links)
		})
}

// brief is heaps as a text that is not too long to be read.
func brief(list ...api.Heap) string {
	text := fmt.Sprint(list)
	return text[:min(len(text), 600)]
}

// all keeps whatever there is.
func all() []bool {
	return slices.Repeat([]bool{true}, api.MaxSectors)
}

// keeps is the choice of which a number tells by its lowest bits.
func keeps(mask, bits int) []bool {
	keep := make([]bool, bits)
	for i := range keep {
		keep[i] = mask>>i&1 == 1
	}
	return keep
}

func fresh(t *testing.T, sectors int) *pdisk.Disk {
	t.Helper()
	d, e := pdisk.New(sectors)
	if e != api.OK {
		t.Fatalf("P7.1: New of %d: %d", sectors, e)
	}
	return d
}

// sectors is what a disk has.
func sectors(t *testing.T, d *pdisk.Disk) []string {
	t.Helper()
	list := make([]string, d.Size())
	for at := range list {
		b, e := d.Read(at)
		if e != api.OK {
			t.Fatalf("P7.1: Read(%d): %d", at, e)
		}
		list[at] = string(b)
	}
	return list
}

// put lays sectors on a disk, and flushes it.
func put(t *testing.T, d *pdisk.Disk, from int, list []string) {
	t.Helper()
	for i, text := range list {
		if e := d.Write(from+i, []byte(text)); e != api.OK {
			t.Fatalf("P7.2: Write(%d): %d", from+i, e)
		}
	}
	if e := d.Flush(); e != api.OK {
		t.Fatalf("P7.2: Flush: %d", e)
	}
}

// laid is a new disk that has these sectors, and nothing dirty.
func laid(t *testing.T, list []string) *pdisk.Disk {
	t.Helper()
	d := fresh(t, len(list))
	put(t, d, 0, list)
	return d
}

// crashed crashes a disk, and keeps nothing.
func crashed(d *pdisk.Disk) *pdisk.Disk {
	d.Crash(nil)
	return d
}

// tells looks that a call answers that error.
func tells(t *testing.T, call string, got, want api.Errno) {
	t.Helper()
	if got != want {
		t.Errorf("%s: %d, not %d", call, got, want)
	}
}

// dice is a row of numbers by a rule.
type dice uint64

func (d *dice) below(n int) int {
	*d = *d*6364136223846793005 + 1442695040888963407
	return int(uint64(*d) >> 33 % uint64(n))
}
