package redo_test

import (
	"slices"
	"testing"

	"tumulus/api"
)

// step is something that is done on a log.
type step func(p *pair)

func short(p *pair)    { p.append(p.text(1)) }
func long(p *pair)     { p.append(p.text(60)) }
func longer(p *pair)   { p.append(p.text(120)) }
func force(p *pair)    { p.force() }
func trimNone(p *pair) { p.trim(p.now().first) }
func trimOne(p *pair)  { p.trim(min(p.now().first+1, p.now().next())) }
func trimAll(p *pair)  { p.trim(p.now().next()) }

// reopen opens the log anew without a crash.
func reopen(p *pair) { p.open() }

// rows are all rows of so many steps.
func rows(n int, steps ...step) [][]step {
	if n == 0 {
		return [][]step{nil}
	}
	var list [][]step
	for _, row := range rows(n-1, steps...) {
		for _, s := range steps {
			list = append(list, append(slices.Clone(row), s))
		}
	}
	return list
}

func (p *pair) do(row []step) {
	p.t.Helper()
	for _, s := range row {
		s(p)
	}
}

// choices are all that a crash may keep of what a run leaves dirty on the disk, and ahead of them all of it.
// run is done anew, and must come to the same each time.
func choices(run func() *pair) [][]bool {
	p := run()
	before := sectors(p.t, p.disk)
	p.crash(nil)
	dirty := 0
	for at, text := range sectors(p.t, p.disk) {
		if text != before[at] {
			dirty++
		}
	}
	list := [][]bool{all()}
	for mask := range 1 << dirty {
		list = append(list, keeps(mask, dirty))
	}
	return list
}

// stopped does row on a disk that stops behind n calls; beyond tells that it did not stop.
func stopped(before func() *pair, row []step, n int) (p *pair, beyond bool) {
	p = before()
	p.disk.Stop(n)
	p.do(row)
	return p, !p.disk.Down()
}

// everywhere does row on a disk that stops behind each number of calls, and then crashes, by each choice of
// what it keeps, and hands on each log that is opened then; before makes the log, the same each time.
func everywhere(before func() *pair, row []step, then func(p *pair)) {
	for n := 0; ; n++ {
		run := func() *pair {
			p, _ := stopped(before, row, n)
			return p
		}
		for _, keep := range choices(run) {
			p := run()
			p.again(keep)
			then(p)
		}
		if _, beyond := stopped(before, row, n); beyond {
			return
		}
	}
}

// goesOn looks that a log is one that goes on: what is appended and forced is there behind a crash, what was
// trimmed is not.
func goesOn(p *pair) {
	p.t.Helper()
	p.trim(p.now().next() - min(1, len(p.now().records)))
	p.append(p.text(1))
	tells(p.t, "P8.3: Force", p.force(), api.OK)
	p.again(nil)
	p.trim(p.now().next())
	p.again(nil)
	p.again(nil)
}

// turned is a log whose ring went round so far that the next records lie around its end, wherever that is.
func turned(t *testing.T, sectors, by int) *pair {
	t.Helper()
	p := newPair(t, sectors)
	for range by {
		p.append("")
		p.trim(p.now().next())
	}
	return p
}

// TestCrashAnywhere: each row of up to three steps, on a new log and on ones whose ring went round.
func TestCrashAnywhere(t *testing.T) {
	t.Parallel()
	for n := range 4 {
		for _, row := range rows(n, short, long, force, trimOne, trimAll, reopen) {
			for _, by := range []int{0, 5} {
				before := func() *pair { return turned(t, 10, by) }
				everywhere(before, row, goesOn)
			}
		}
	}
}

// TestCrashForced: the same behind records that were forced, of which some are trimmed.
func TestCrashForced(t *testing.T) {
	t.Parallel()
	for n := range 3 {
		for _, row := range rows(n, short, longer, force, trimNone, trimOne, trimAll) {
			before := func() *pair {
				p := turned(t, 16, 11)
				p.do([]step{short, long, force, short})
				return p
			}
			everywhere(before, row, goesOn)
		}
	}
}

// TestCrashFirstOpen: a disk that stops in the first Open.
func TestCrashFirstOpen(t *testing.T) {
	for _, sectors := range []int{8, 9, 1024} {
		before := func() *pair { return newPart(t, fresh(t, sectors), 0, sectors) }
		everywhere(before, []step{reopen}, goesOn)
	}
}

// TestCrashInOpen: a disk that stops in an Open behind a crash, and again in the one behind that crash.
func TestCrashInOpen(t *testing.T) {
	t.Parallel()
	for _, row := range rows(2, short, long, trimAll) {
		written := func() *pair {
			p := turned(t, 10, 4)
			p.do([]step{short, force})
			p.do(row)
			p.do([]step{long})
			return p
		}
		for _, keep := range choices(written) {
			first := func() *pair {
				p := written()
				p.crash(keep)
				return p
			}
			everywhere(first, []step{reopen}, goesOn)
			for n := range 4 {
				second := func() *pair {
					p, _ := stopped(first, []step{reopen}, n)
					p.crash(keeps(n, 3))
					return p
				}
				everywhere(second, []step{reopen}, func(*pair) {})
			}
		}
	}
}

// TestStale: a record that a crash lost, or a part of it, never comes back, whatever comes to lie where it lay:
// records as long, shorter and longer, that a crash loses too, or a part of them.
func TestStale(t *testing.T) {
	t.Parallel()
	for _, lost := range [][]step{{short, short, short}, {long, long}, {short, long}, {longer, short}} {
		written := func() *pair {
			p := turned(t, 10, 7)
			p.do(lost)
			return p
		}
		for _, keep := range choices(written) {
			before := func() *pair {
				p := written()
				p.again(keep)
				return p
			}
			for _, row := range rows(2, short, long, trimAll) {
				everywhere(before, row, goesOn)
			}
		}
	}
}

// TestStaleFar: what two crashes lost, of two times the log was open, does not come back either, nor what was
// trimmed, when the ring comes round to it.
func TestStaleFar(t *testing.T) {
	for first := range 1 << 6 {
		for second := range 1 << 4 {
			p := newPair(t, 10)
			p.do([]step{short, force, long, short, long})
			p.again(keeps(first, 6))
			p.do([]step{short, long})
			p.again(keeps(second, 4))
			p.trim(p.now().next() - second%2)
			for range 8 {
				p.append(p.text(1 + 59*(first%2)))
				p.again(keeps(first, 3))
				p.trim(p.now().next())
				p.again(nil)
			}
		}
	}
}

// TestStaleSame: a text that was lost may come once more: then it is there once.
func TestStaleSame(t *testing.T) {
	texts := []string{"a", "b", "c"}
	for mask := range 1 << 3 {
		for again := range 4 {
			p := newPair(t, 12)
			for _, text := range texts {
				p.append(text)
			}
			p.again(keeps(mask, 3))
			for _, text := range texts[:again] {
				p.append(text)
			}
			p.opened()
			p.again(nil)
		}
	}
}

// TestCrashTwice: crashes one behind the other, with no Open between them, or one between.
func TestCrashTwice(t *testing.T) {
	for _, row := range rows(3, short, long, trimAll) {
		p := newPair(t, 14)
		p.do(row)
		p.crash(keeps(5, 4))
		p.crash(all())
		p.again(nil)
		p.again(nil)
		p.do(row)
		p.again(keeps(6, 4))
		p.again(all())
		goesOn(p)
	}
}

// TestKeepsAll: a crash that keeps all loses nothing, however much there is.
func TestKeepsAll(t *testing.T) {
	for _, sectors := range []int{8, 9, 40, 1024} {
		p := newPair(t, sectors)
		for i := range 3 {
			fill(p, 40*i)
			before := p.now()
			p.again(all())
			if !p.now().same(before) {
				t.Errorf("P8.4: a crash that keeps all: %v, not %v", p.now(), before)
			}
			p.trim(p.now().next() - i)
		}
	}
}

// TestStopLast: a call that asks the disk for its last one answers OK; the next one does not.
func TestStopLast(t *testing.T) {
	for _, s := range []step{short, long, force, trimOne, trimAll, reopen} {
		ended := 0
		for n := 1; n < 12; n++ {
			p := newPair(t, 16)
			p.do([]step{short, long})
			p.disk.Stop(n)
			s(p)
			if p.disk.Down() && p.failed == nil {
				ended++
			}
			p.append(p.text(1))
			p.again(all())
			goesOn(p)
		}
		if ended == 0 {
			t.Error("P8.4: no number of calls lets a step end as the disk stops")
		}
	}
}
