package pheap_test

import (
	"slices"
	"testing"

	"tumulus/api"
)

// step is something that is done on a heap.
type step func(p *pair)

func allocate(p *pair) { p.do(alloc(1, 1)) }
func drop(p *pair)     { p.do(free(p.now().Next - 1)) }
func set(p *pair)      { p.do(write(1, 0, -len(p.made)-p.now().Next)) }
func lead(p *pair)     { p.do(root(len(p.made)%api.Roots, 1)) }
func ask(p *pair)      { p.do(read(1, 0)) }
func fail(p *pair)     { p.do(free(99)) }
func force(p *pair)    { p.force() }
func check(p *pair)    { p.checkpoint() }

// reopen opens the heap anew without a crash.
func reopen(p *pair) { p.open() }

// rows are all rows of so many steps.
func rows(n int, steps ...step) [][]step {
	if n == 0 {
		return [][]step{nil}
	}
	var list [][]step
	for _, row := range rows(n-1, steps...) {
		for _, s := range steps {
			list = append(list, append(slices.Clone(row), s))
		}
	}
	return list
}

func (p *pair) steps(row []step) {
	p.t.Helper()
	for _, s := range row {
		s(p)
	}
}

// fewDirty is how many dirty sectors are so few that each choice of what a crash keeps is tried.
const fewDirty = 6

// dirty is how many sectors a crash would change.
func dirty(p *pair) int {
	p.t.Helper()
	before := sectors(p.t, p.disk)
	p.crash(nil)
	n := 0
	for at, text := range sectors(p.t, p.disk) {
		if text != before[at] {
			n++
		}
	}
	return n
}

// choices are what a crash may keep of so many dirty sectors: each choice, where they are few, else some that
// are drawn; and ahead of them all of it.
func choices(d *dice, dirty int) [][]bool {
	list := [][]bool{all(), nil}
	if dirty <= fewDirty {
		for mask := range 1 << dirty {
			list = append(list, keeps(mask, dirty))
		}
		return list
	}
	for range 3 {
		list = append(list, drawnKeep(d, dirty))
	}
	// The first ones alone, all but one of the first, and all but one of the last.
	at := d.below(dirty)
	most := all()
	most[at] = false
	return append(list, keeps(-1, at), most)
}

// drawnKeep is what a crash may keep of so many sectors.
func drawnKeep(d *dice, dirty int) []bool {
	keep := make([]bool, dirty)
	some := 1 + d.below(7)
	for i := range keep {
		keep[i] = d.below(8) < some
	}
	return keep
}

// stopped does row on a disk that stops behind n calls; beyond tells that it did not stop.
func stopped(before func() *pair, row []step, n int) (p *pair, beyond bool) {
	p = before()
	p.disk.Stop(n)
	p.steps(row)
	return p, !p.disk.Down()
}

// everywhere does row on a disk that stops behind each number of calls, and then crashes, by each choice of
// what it keeps, and hands on each heap that is opened then; before makes the heap, the same each time.
func everywhere(before func() *pair, row []step, then func(p *pair)) {
	d := dice(len(row))
	for n := 0; ; n++ {
		p, beyond := stopped(before, row, n)
		for _, keep := range choices(&d, dirty(p)) {
			p, _ := stopped(before, row, n)
			p.again(keep)
			then(p)
		}
		if beyond {
			return
		}
	}
}

// goesOn looks that a heap is one that goes on: what is done and forced is there behind a crash.
func goesOn(p *pair) {
	p.t.Helper()
	p.do(root(3, 0))
	p.do(alloc(0, 1))
	tells(p.t, "P9.3: Force", p.force(), api.OK)
	p.again(nil)
	p.do(root(2, 0))
	tells(p.t, "P9.3: Checkpoint", p.checkpoint(), api.OK)
	p.again(nil)
}

// small is a heap of which so many operations were done and forced.
func small(t *testing.T, ops int) func() *pair {
	return func() *pair {
		p := newPair(t, 5)
		for i := range ops {
			if i == 0 {
				allocate(p)
			} else {
				set(p)
			}
		}
		p.force()
		return p
	}
}

// wide is a heap whose image has so many pieces, on which so many operations were done and forced. What made it
// is no more on its disk, so that there is less to read.
func wide(t *testing.T, pieces, ops int) func() *pair {
	p := filled(t, shape{8, 31, 0, []int{0, 1 << 16, -1}[pieces-1]}, 0)
	p.opened()
	was, list := p.now(), sectors(t, logged(t, 1, records(t, p.disk)...))
	return func() *pair {
		p := &pair{t: t, disk: laid(t, list), order: 8, made: []api.Heap{was}}
		p.opened()
		for range ops {
			lead(p)
		}
		p.force()
		return p
	}
}

// TestCrashFirstOpen: a disk that stops in the first Open, and in the ones behind that.
func TestCrashFirstOpen(t *testing.T) {
	t.Parallel()
	for _, order := range []int{3, 8} {
		first := func() *pair { return unopened(t, least, order) }
		everywhere(first, []step{reopen}, goesOn)
		for n := range 8 {
			for mask := range 4 {
				again := func() *pair {
					p, _ := stopped(first, []step{reopen}, n)
					p.crash(keeps(mask, 2))
					return p
				}
				everywhere(again, []step{reopen}, goesOn)
			}
		}
	}
}

// TestCrashAnywhere: each row of up to three steps on a heap with an object, and of up to two on a new one.
func TestCrashAnywhere(t *testing.T) {
	t.Parallel()
	for n := range 4 {
		for _, row := range rows(n, allocate, lead, force, check, reopen) {
			t.Run("", func(t *testing.T) {
				t.Parallel()
				if n < 3 {
					everywhere(small(t, 0), row, goesOn)
					everywhere(small(t, 1), row, goesOn)
				} else {
					everywhere(small(t, 1), row, func(*pair) {})
				}
			})
		}
	}
}

// TestCrashNextImage: the same where a Do lays the next image on its way: whatever the number of operations is
// behind which it does.
func TestCrashNextImage(t *testing.T) {
	t.Parallel()
	for ops := 2; ops <= 36; ops++ {
		t.Run("", func(t *testing.T) {
			t.Parallel()
			everywhere(small(t, ops), []step{set, ask, lead}, goesOn)
		})
	}
	for _, row := range rows(3, set, drop, fail, force) {
		t.Run("", func(t *testing.T) {
			t.Parallel()
			everywhere(small(t, 15), row, func(*pair) {})
		})
	}
}

// TestCrashWide: the same on heaps whose images have several pieces; in a Checkpoint, and in an Open, too.
func TestCrashWide(t *testing.T) {
	t.Parallel()
	for _, x := range []struct {
		pieces, ops int
		row         []step
	}{
		{2, 15, []step{set, lead, set}},
		{3, 15, []step{set, lead}},
		{2, 16, []step{check, set}},
		{3, 3, []step{lead, check}},
		{3, 7, []step{set, reopen}},
	} {
		t.Run("", func(t *testing.T) {
			t.Parallel()
			everywhere(wide(t, x.pieces, x.ops), x.row, func(p *pair) { p.do(root(1, 0)) })
		})
	}
}

// TestCrashInOpen: a disk that stops in an Open behind a crash that came upon an image that was laid, or upon
// operations; and in an Open behind that crash, again.
func TestCrashInOpen(t *testing.T) {
	t.Parallel()
	d := dice(3)
	// The 16th operation is behind 4 calls; then come two pieces of an image, the first one of 29 sectors, and 3
	// calls that let go what lies ahead.
	for _, n := range []int{3, 20, 33, 40, 44} {
		keep := drawnKeep(&d, 50)
		t.Run("", func(t *testing.T) {
			t.Parallel()
			whole := wide(t, 2, 14)
			first := func() *pair {
				p, _ := stopped(whole, []step{set, set, set}, n)
				p.crash(keep)
				return p
			}
			everywhere(first, []step{reopen}, func(p *pair) { p.do(root(1, 0)) })
			for again := 0; again < 44; again += 4 {
				second := func() *pair {
					p, _ := stopped(first, []step{reopen}, again)
					p.crash(keep[again:])
					return p
				}
				p := second()
				p.opened()
				p.again(nil)
				p = second()
				p.disk.Stop(again / 2)
				p.open()
				p.again(keep[again/2:])
			}
		})
	}
}

// TestCrashAgainAndAgain: images that crashes cut short leave room for further ones, however many there are: the
// disk stops at the same number of calls of a Checkpoint, or of an Open, each time.
func TestCrashAgainAndAgain(t *testing.T) {
	t.Parallel()
	for n := 1; n < 100; n += 7 {
		t.Run("", func(t *testing.T) {
			t.Parallel()
			p := wide(t, 3, 10)()
			for i := range 40 {
				p.disk.Stop(n)
				p.checkpoint()
				p.crash(all())
				if i%2 == 0 {
					p.disk.Stop(n)
					p.open()
					p.crash(all())
				}
				p.opened()
				p.fine(root(0, i%9))
			}
			p.secure("c")
			p.again(nil)
		})
	}
}

// TestCrashTwice: crashes one behind the other, with no Open between them, or one between.
func TestCrashTwice(t *testing.T) {
	for _, row := range rows(3, allocate, lead, check) {
		p := small(t, 1)()
		p.steps(row)
		p.crash(keeps(5, 4))
		p.crash(all())
		p.again(nil)
		p.again(nil)
		p.steps(row)
		p.again(keeps(7, 5))
		p.again(all())
		goesOn(p)
	}
}

// TestKeepsAll: a crash that keeps all loses nothing, whatever was done and not forced.
func TestKeepsAll(t *testing.T) {
	for ops := range 60 {
		p := small(t, 1)()
		for range ops {
			set(p)
		}
		before := p.now()
		p.again(all())
		if !same(p.now(), before) {
			t.Errorf("P9.4: a crash that keeps all: %s, not %s", brief(p.now()), brief(before))
		}
	}
}

// TestForced: what was forced is told by each Open behind it, however the disk stops and crashes later.
func TestForced(t *testing.T) {
	t.Parallel()
	for n := range 40 {
		p := small(t, n)()
		p.do(alloc(1, 0))
		forced := p.now().Next - 1
		p.secure([]string{"f", "c"}[n%2])
		for i := range 12 {
			set(p)
			p.disk.Stop((n + i) % 6)
			p.steps([]step{lead, check, set, reopen})
			p.again(keeps(n*i, 8))
			if _, e := p.heap.Do(read(forced, 0)); e != api.OK || p.now().Next <= forced {
				t.Fatalf("P9.5: what was forced is not there: %s", brief(p.now()))
			}
		}
	}
}

// TestStopLast: a call that asks the disk for its last one answers OK, and what it did is there.
func TestStopLast(t *testing.T) {
	calls := []func(p *pair) bool{
		func(p *pair) bool { _, e := p.do(write(1, 0, 5)); return e == api.OK },
		func(p *pair) bool { return p.force() == api.OK },
		func(p *pair) bool { return p.checkpoint() == api.OK },
		(*pair).open,
	}
	for _, call := range calls {
		ended := 0
		for n := 1; n < 16; n++ {
			p := small(t, 2)()
			p.disk.Stop(n)
			if call(p) && p.disk.Down() {
				ended++
			}
			p.again(all())
			goesOn(p)
		}
		if ended != 1 {
			t.Errorf("P9.4: %d numbers of calls let a call end as the disk stops", ended)
		}
	}
}
