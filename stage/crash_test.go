package stage_test

import (
	"slices"
	"testing"

	"tumulus/api"
)

// step is something that is done on a stage.
type step func(p *pair)

func stageOne(p *pair) { p.begin(p.text(2)) }
func stageTwo(p *pair) { p.begin(p.text(130)) }
func putFirst(p *pair) { p.steps([]step{putIn(0)}) }
func putRest(p *pair)  { p.putAll() }
func force(p *pair)    { p.force() }
func install(p *pair)  { p.install() }

// putIn puts the piece in that place, if there is one.
func putIn(i int) step {
	return func(p *pair) {
		if i < len(p.now.m.Sums) {
			p.putOne(i)
		}
	}
}

// reopen opens the stage anew without a crash.
func reopen(p *pair) { p.open() }

// rows are all rows of so many steps.
func rows(n int, steps ...step) [][]step {
	if n == 0 {
		return [][]step{nil}
	}
	var list [][]step
	for _, row := range rows(n-1, steps...) {
		for _, s := range steps {
			list = append(list, append(slices.Clone(row), s))
		}
	}
	return list
}

func (p *pair) steps(row []step) {
	p.t.Helper()
	for _, s := range row {
		s(p)
	}
}

// fewDirty is how many dirty sectors are so few that each choice of what a crash keeps is tried.
const fewDirty = 6

// dirty is how many sectors a crash would change.
func dirty(p *pair) int {
	p.t.Helper()
	before := sectors(p.t, p.disk)
	p.crash(nil)
	n := 0
	for at, text := range sectors(p.t, p.disk) {
		if text != before[at] {
			n++
		}
	}
	return n
}

// choices are what a crash may keep of so many dirty sectors: each choice, where they are few, else some that
// are drawn; and ahead of them all of it, and nothing.
func choices(d *dice, dirty int) [][]bool {
	list := [][]bool{all(), nil}
	if dirty <= fewDirty {
		for mask := range 1 << dirty {
			list = append(list, keeps(mask, dirty))
		}
		return list
	}
	for range 4 {
		list = append(list, drawnKeep(d, dirty))
	}
	// The first ones alone, and all but one.
	at := d.below(dirty)
	most := all()
	most[at] = false
	return append(list, slices.Repeat([]bool{true}, at), most)
}

// drawnKeep is what a crash may keep of so many sectors.
func drawnKeep(d *dice, dirty int) []bool {
	keep := make([]bool, dirty)
	some := 1 + d.below(7)
	for i := range keep {
		keep[i] = d.below(8) < some
	}
	return keep
}

// stopped does row on a disk that stops behind n calls; beyond tells that it did not stop.
func stopped(before func() *pair, row []step, n int) (p *pair, beyond bool) {
	p = before()
	p.disk.Stop(n)
	p.steps(row)
	return p, !p.disk.Down()
}

// everywhere does row on a disk that stops behind each number of calls, and then crashes, by each choice of
// what it keeps, and hands on each stage that is opened then; before makes the stage, the same each time.
func everywhere(before func() *pair, row []step, then func(p *pair)) {
	d := dice(len(row))
	for n := 0; ; n++ {
		p, beyond := stopped(before, row, n)
		for _, keep := range choices(&d, dirty(p)) {
			p, _ := stopped(before, row, n)
			p.again(keep)
			then(p)
		}
		if beyond {
			return
		}
	}
}

// goesOn looks that a stage is one that goes on: the pieces that are missing come, and Install makes the text;
// so does one that comes in its place.
func goesOn(p *pair) {
	p.t.Helper()
	if p.now.comes {
		p.putAll()
		tells(p.t, "P11.3: Install", p.install(), api.OK)
		p.again(nil)
	}
	tells(p.t, "P11.2: Begin", p.begin(p.text(85)), api.OK)
	p.again(nil)
	p.putAll()
	tells(p.t, "P11.2: Force", p.force(), api.OK)
	p.again(nil)
	tells(p.t, "P11.3: Install", p.install(), api.OK)
	p.again(nil)
}

// from is a stage with which that was done, and forced.
func from(t *testing.T, row ...step) func() *pair {
	p := newPair(t)
	p.steps(row)
	p.force()
	list := sectors(t, p.disk)
	return func() *pair {
		p := &pair{t: t, disk: laid(t, list), now: p.now, texts: p.texts}
		p.now.pieces = clone(p.now.pieces)
		p.opened()
		return p
	}
}

func clone(pieces map[int]string) map[int]string {
	list := map[int]string{}
	for i, piece := range pieces {
		list[i] = piece
	}
	return list
}

// starts are stages of each kind: new, with a text that is staged, without pieces, with some, with all; with a
// current text, in each slot.
func starts(t *testing.T) []func() *pair {
	return []func() *pair{
		from(t),
		from(t, stageTwo),
		from(t, stageTwo, putIn(1)),
		from(t, stageTwo, putRest, install),
		from(t, stageOne, putRest, install, stageTwo, putRest, install),
		from(t, stageOne, putRest, install, stageTwo, putFirst),
		from(t, stageOne, putRest, install, stageTwo, putRest),
		from(t, stageOne, stageTwo, putRest, install, stageTwo, putRest, stageTwo, putRest),
	}
}

// TestCrashFirstOpen: a disk that stops in the first Open, and in the ones behind that.
func TestCrashFirstOpen(t *testing.T) {
	t.Parallel()
	first := func() *pair { return unopened(t, fresh(t, least+2), 1) }
	everywhere(first, []step{reopen}, goesOn)
	for n := range 8 {
		for mask := range 4 {
			again := func() *pair {
				p, _ := stopped(first, []step{reopen}, n)
				p.crash(keeps(mask, 2))
				return p
			}
			everywhere(again, []step{reopen}, goesOn)
		}
	}
}

// TestCrashAnywhere: each row of up to two steps on each kind of stage, and of three on some.
func TestCrashAnywhere(t *testing.T) {
	t.Parallel()
	for i, before := range starts(t) {
		for n := range 4 {
			for _, row := range rows(n, stageOne, stageTwo, putFirst, putRest, force, install, reopen) {
				if n == 3 && i != 3 && i != 6 {
					continue
				}
				t.Run("", func(t *testing.T) {
					t.Parallel()
					if n < 3 {
						everywhere(before, row, goesOn)
					} else {
						everywhere(before, row, func(*pair) {})
					}
				})
			}
		}
	}
}

// TestCrashLong: the same with texts of the greatest Size.
func TestCrashLong(t *testing.T) {
	t.Parallel()
	greatest := func(p *pair) { p.begin(p.text(5000)) }
	great := func(p *pair) { p.begin(p.text(4960)) }
	few := func(p *pair) { p.steps([]step{putIn(0), putIn(31), putIn(62)}) }
	most := func(p *pair) {
		for i := range p.now.m.Sums {
			if i%9 > 0 {
				p.putOne(i)
			}
		}
	}
	for _, x := range []struct {
		before func() *pair
		row    []step
	}{
		{from(t), []step{greatest, few}},
		{from(t, greatest, putRest, install), []step{greatest, few}},
		{from(t, greatest, putRest, install, great, putRest, install), []step{greatest, greatest}},
		{from(t, greatest, putRest, install, greatest, putRest), []step{install, great, few}},
		{from(t, greatest, putRest, install, great, most), []step{putRest, install}},
		{from(t, greatest, putRest, install, great, few), []step{great, few, reopen}},
	} {
		t.Run("", func(t *testing.T) {
			t.Parallel()
			everywhere(x.before, x.row, func(*pair) {})
		})
	}
}

// TestCrashInOpen: a disk that stops in an Open behind a crash that came upon a Begin, a Put or an Install; and
// in an Open behind that crash, again.
func TestCrashInOpen(t *testing.T) {
	t.Parallel()
	before := from(t, stageTwo, putRest, install, stageTwo, putFirst)
	for _, row := range [][]step{{putRest}, {stageTwo}, {putRest, install}, {putRest, install, stageOne}, {stageTwo, putRest}} {
		for n := range 18 {
			t.Run("", func(t *testing.T) {
				t.Parallel()
				for _, mask := range []int{0, 1, 2, 5, 7} {
					first := func() *pair {
						p, _ := stopped(before, row, n)
						p.crash(keeps(mask, 3))
						return p
					}
					everywhere(first, []step{reopen}, func(*pair) {})
					second := func() *pair {
						p, _ := stopped(first, []step{reopen}, n%9)
						p.crash(keeps(mask, 2))
						return p
					}
					everywhere(second, []step{reopen}, func(*pair) {})
					p := second()
					p.opened()
					goesOn(p)
				}
			})
		}
	}
}

// TestCrashBegins: Begins that crashes cut short leave room for further ones, however many there are: the disk
// stops at the same number of calls of a Begin, or of an Open, each time.
func TestCrashBegins(t *testing.T) {
	t.Parallel()
	for n := 1; n < 24; n++ {
		p := newPair(t)
		p.renew(p.text(5000))
		for i := range 12 {
			p.disk.Stop(n)
			p.begin(p.text(5000))
			p.crash(all())
			if i%2 == 0 {
				p.disk.Stop(n)
				p.open()
				p.crash(all())
			}
			p.opened()
			tells(t, "P11.2: Begin", p.begin(p.text(4000)), api.OK)
		}
		goesOn(p)
	}
}

// TestCrashHalves: a crash that keeps a half of a piece loses it; another piece that fits in its place is never
// told as a mixture of both, whatever crashes keep of either.
func TestCrashHalves(t *testing.T) {
	t.Parallel()
	for mask := range 64 {
		first, second, third := keeps(mask, 2), keeps(mask>>2, 2), keeps(mask>>4, 2)
		for _, opens := range []int{1, 2} {
			p := newPair(t)
			data := p.text(160)
			one := data[:80]
			// In each half other bytes of the same sum: so mixtures fit as well.
			two := double(double(one, 2), 60)
			p.begin(data)
			for i, keep := range [][]bool{first, second, third} {
				p.put(0, []string{one, two, one}[i])
				p.crash(keep)
				for range opens {
					p.opened()
				}
			}
			p.putAll()
			tells(t, "P11.3: Install", p.install(), api.OK)
			p.again(nil)
		}
	}
}

// TestCrashTwice: crashes one behind the other, with no Open between them, or one between.
func TestCrashTwice(t *testing.T) {
	t.Parallel()
	for _, row := range rows(3, stageTwo, putFirst, putRest, install) {
		p := from(t, stageOne, putRest, install)()
		p.steps(row)
		p.crash(keeps(5, 4))
		p.crash(all())
		p.again(nil)
		p.again(nil)
		p.steps(row)
		p.again(keeps(7, 5))
		p.again(all())
		goesOn(p)
	}
}

// TestKeepsAll: a crash that keeps all loses nothing, one that keeps nothing leaves what was safe.
func TestKeepsAll(t *testing.T) {
	for _, row := range rows(3, stageTwo, putIn(0), putIn(1), install, force) {
		p := newPair(t)
		p.renew(p.text(50))
		p.steps(row)
		before := p.now.seen()
		p.again(all())
		if !alike(p.now.seen(), before) {
			t.Fatalf("P11.4: a crash that keeps all: %v, not %v", p.now.seen(), before)
		}
		p.begin(p.text(240))
		p.putOne(2)
		p.force()
		p.putOne(0)
		p.again(nil)
		if !slices.Equal(p.stage.Have(), []int{2}) {
			t.Fatalf("P11.4: a crash that keeps nothing: %v", p.stage.Have())
		}
	}
}

// TestWholeTexts: the current text is at any time one that was installed as a whole, and pieces that were forced
// need not come again, however the disk stops and crashes.
func TestWholeTexts(t *testing.T) {
	t.Parallel()
	d := dice(11)
	p := newPair(t)
	was := p.text(700)
	p.renew(was)
	for range 300 {
		next := p.text(700)
		for p.begin(next) != api.OK {
			p.again(drawnKeep(&d, 20))
		}
		for {
			forced := p.stage.Have()
			p.disk.Stop(1 + d.below(40))
			p.putAll()
			p.force()
			e := p.install()
			p.again(drawnKeep(&d, 40))
			x, is := p.stage.Current()
			if !is || x != was && x != next || x == was && e == api.OK {
				t.Fatalf("P11.5: the current text is %v", p.now.seen())
			}
			if x == next {
				break
			}
			for _, i := range forced {
				if !slices.Contains(p.stage.Have(), i) {
					t.Fatalf("P11.5: a piece that was safe must come again")
				}
			}
		}
		was = next
	}
}

// TestStopLast: a call that asks the disk for its last one answers OK, and what it did is there.
func TestStopLast(t *testing.T) {
	calls := []func(p *pair) bool{
		func(p *pair) bool { return p.begin(p.text(90)) == api.OK },
		func(p *pair) bool { return p.put(1, plainCut(p.now.data)[1]) == api.OK },
		func(p *pair) bool { return p.force() == api.OK },
		func(p *pair) bool { return p.install() == api.OK },
		(*pair).open,
	}
	for i, call := range calls {
		ended := 0
		for n := 1; n < 24; n++ {
			p := from(t, stageTwo, putFirst)()
			if i == 3 {
				p.putAll()
			}
			p.disk.Stop(n)
			if call(p) && p.disk.Down() {
				ended++
			}
			p.again(all())
			goesOn(p)
		}
		if ended != 1 {
			t.Errorf("P11.4: %d numbers of calls let call %d end as the disk stops", ended, i)
		}
	}
}
