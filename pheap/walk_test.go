package pheap_test

import (
	"math"
	"testing"

	"tumulus/api"
)

// values are what words may be, each as likely as the others.
var values = []int{0, 1, -1, 255, 256, 1 << 16, 1<<32 - 1, 1 << 32, -1 << 31, math.MaxInt, math.MinInt, 'o', 'l' << 24, 0x7070707070707070}

// drawnHandle is mostly that of an object.
func drawnHandle(d *dice, h api.Heap) int {
	if len(h.Objects) > 0 && d.below(12) > 0 {
		return h.Objects[d.below(len(h.Objects))].Handle
	}
	return d.below(h.Next+2) - 1
}

// drawnOp is an operation that is mostly one that can be done.
func drawnOp(d *dice, h api.Heap) api.Op {
	o := api.Op{Kind: api.OpKind(1 + d.below(8)), H: drawnHandle(d, h), I: d.below(4), V: values[d.below(len(values))], T: drawnHandle(d, h)}
	o.N, o.K = d.below(5), d.below(3)
	switch d.below(20) {
	case 0:
		o.N, o.K = d.below(34), d.below(18)
	case 1:
		o.I = values[d.below(len(values))]
	case 2:
		o.T = 0
	case 3:
		o.Kind = api.OpKind(d.below(11) - 1)
	case 4:
		o.I = d.below(32)
	}
	return o
}

// drawnCrash is what a crash keeps: nothing, all, or some.
func drawnCrash(d *dice) []bool {
	switch d.below(4) {
	case 0:
		return nil
	case 1:
		return all()
	}
	return drawnKeep(d, d.below(60))
}

// call asks one call that is drawn.
func call(d *dice, p *pair) {
	p.t.Helper()
	switch d.below(40) {
	case 0, 1, 2:
		p.force()
	case 3, 4:
		p.checkpoint()
	case 5:
		p.disk.Stop(d.below(90))
	case 6:
		p.disk.Stop(d.below(6))
	default:
		p.do(drawnOp(d, p.now()))
	}
}

// reborn opens a heap behind a crash, on a disk that may stop in that, and crash again.
func reborn(d *dice, p *pair) {
	p.t.Helper()
	if d.below(3) == 0 {
		p.disk.Stop(d.below(40))
	}
	for !p.open() {
		p.crash(drawnCrash(d))
		if d.below(3) > 0 {
			p.disk.Stop(d.below(12))
		}
	}
}

// TestWalk: long rows of operations, forces, checkpoints, stops, crashes and opens that are drawn.
func TestWalk(t *testing.T) {
	t.Parallel()
	for i, order := range []int{3, 4, 5, 6, 7, 8, 8, 3} {
		t.Run("", func(t *testing.T) {
			t.Parallel()
			d := dice(i)
			p := unopened(t, least+i*i*i, order)
			p.opened()
			for range 400 {
				for range d.below(50) {
					call(&d, p)
				}
				if d.below(4) > 0 || !p.open() {
					p.crash(drawnCrash(&d))
					reborn(&d, p)
				}
			}
		})
	}
}

// TestWalkSteady: the same without stops and crashes: all that was done is there.
func TestWalkSteady(t *testing.T) {
	t.Parallel()
	for _, order := range orders {
		t.Run("", func(t *testing.T) {
			t.Parallel()
			d := dice(order)
			p := newPair(t, order)
			for range 100 {
				for range d.below(60) {
					if _, e := p.do(drawnOp(&d, p.now())); e != api.OK {
						t.Fatalf("P9.3: %d", e)
					}
				}
				if len(p.made) > 500 || d.below(9) == 0 {
					p.secure([]string{"f", "c"}[d.below(2)])
				}
				if d.below(5) == 0 {
					p.opened()
				}
			}
			p.again(all())
		})
	}
}

// TestTwoHeaps: heaps on two disks know nothing of one another, however they stop and crash.
func TestTwoHeaps(t *testing.T) {
	t.Parallel()
	d := dice(5)
	one, two := newPair(t, 4), newPair(t, 6)
	for range 300 {
		for range d.below(30) {
			call(&d, one)
			two.same()
			call(&d, two)
			one.same()
		}
		p := []*pair{one, two}[d.below(2)]
		p.crash(drawnCrash(&d))
		reborn(&d, p)
		one.same()
		two.same()
	}
}

// TestTwoHeapsByTurns: what is forced, and which disk has stopped, on one is not so on the other.
func TestTwoHeapsByTurns(t *testing.T) {
	one, two := newPair(t, 3), newPair(t, 3)
	one.do(alloc(1, 0))
	two.do(alloc(0, 1))
	two.do(alloc(0, 0))
	two.force()
	one.do(write(1, 0, 7))
	one.disk.Stop(0)
	two.do(link(1, 0, 2))
	tells(t, "R3: Checkpoint on the disk that has stopped", one.checkpoint(), api.ErrDiskDown)
	tells(t, "R3: Checkpoint on the other one", two.checkpoint(), api.OK)
	one.again(nil)
	two.again(nil)
	if len(one.now().Objects) != 0 || len(two.now().Objects) != 2 || two.now().Objects[0].Links[0] != 2 {
		t.Errorf("R3: %s, %s", brief(one.now()), brief(two.now()))
	}
}
