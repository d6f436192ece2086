package stage_test

import (
	"strings"
	"testing"

	"tumulus/api"
	"tumulus/chunk"
)

// drawnText is one that is mostly short, of any bytes or of the same ones.
func drawnText(d *dice, p *pair) string {
	size := d.below(420)
	switch d.below(12) {
	case 0:
		size = 4900 + d.below(101)
	case 1:
		size = d.below(5001)
	case 2:
		size = 80 * d.below(4)
	case 3:
		return strings.Repeat("\x00", size)
	}
	return p.text(size)
}

// drawnBegin stages a text, mostly one that may be staged.
func drawnBegin(d *dice, p *pair) {
	p.t.Helper()
	m := plainOf(drawnText(d, p))
	switch d.below(10) {
	case 0:
		m.Size = ints[d.below(len(ints))]
	case 1:
		m.Size += 80 * (d.below(3) - 1)
	case 2:
		list := wrong()
		m = list[d.below(len(list))]
	case 3:
		if p.now.comes {
			p.begin(p.now.data)
			return
		}
	default:
		p.begin(drawnText(d, p))
		return
	}
	// What it is a manifest of is not known: no piece comes.
	p.beginOf(m, "")
}

// drawnPut puts a piece that mostly fits, mostly in a place that has none.
func drawnPut(d *dice, p *pair) {
	p.t.Helper()
	list := plainCut(p.now.data)
	if !p.now.comes || len(list) != len(p.now.m.Sums) || len(list) == 0 {
		p.put(d.below(4)-1, "ab")
		return
	}
	i := d.below(len(list))
	if missing := p.missing(); len(missing) > 0 && d.below(5) > 0 {
		i = missing[d.below(len(missing))]
	}
	piece := list[i]
	switch d.below(12) {
	case 0:
		p.put(ints[d.below(len(ints))], piece)
		return
	case 1:
		piece = piece[:d.below(len(piece)+1)]
	case 2:
		piece += "\x00"
	case 3:
		piece = strings.Repeat("\x01", len(piece))
	case 4, 5, 6, 7:
		if len(piece) >= 5 {
			piece = double(piece, d.below(len(piece)-4))
		}
	}
	p.put(i, piece)
}

// drawnCrash is what a crash keeps: nothing, all, or some.
func drawnCrash(d *dice) []bool {
	switch d.below(4) {
	case 0:
		return nil
	case 1:
		return all()
	}
	return drawnKeep(d, 1+d.below(40))
}

// call asks one call that is drawn.
func call(d *dice, p *pair) {
	p.t.Helper()
	switch d.below(40) {
	case 0, 1:
		drawnBegin(d, p)
	case 2, 3:
		p.force()
	case 4, 5:
		p.install()
	case 6, 7, 8:
		p.putKnown()
	case 9:
		p.disk.Stop(d.below(60))
	case 10:
		p.disk.Stop(d.below(6))
	default:
		drawnPut(d, p)
	}
}

// putKnown puts all that is missing, if the text is known.
func (p *pair) putKnown() {
	p.t.Helper()
	if plainOf(p.now.data).Size == p.now.m.Size {
		p.putAll()
	}
}

// reborn opens a stage behind a crash, on a disk that may stop in that, and crash again.
func reborn(d *dice, p *pair) {
	p.t.Helper()
	if d.below(3) == 0 {
		p.disk.Stop(d.below(12))
	}
	for !p.open() {
		p.crash(drawnCrash(d))
		if d.below(3) > 0 {
			p.disk.Stop(d.below(12))
		}
	}
}

// TestWalk: long rows of calls, stops, crashes and opens that are drawn.
func TestWalk(t *testing.T) {
	t.Parallel()
	for i := range 8 {
		t.Run("", func(t *testing.T) {
			t.Parallel()
			d := dice(i)
			p := unopened(t, fresh(t, least+i*i), i*i/2)
			p.opened()
			installed := 0
			for range 500 {
				for range d.below(40) {
					call(&d, p)
				}
				if d.below(4) > 0 || !p.open() {
					p.crash(drawnCrash(&d))
					reborn(&d, p)
				}
				if p.now.is {
					installed++
				}
			}
			if installed < 300 {
				t.Errorf("P11.3: texts were installed %d times", installed)
			}
		})
	}
}

// TestWalkSteady: the same without stops and crashes: all that was done is there.
func TestWalkSteady(t *testing.T) {
	t.Parallel()
	for i := range 4 {
		t.Run("", func(t *testing.T) {
			t.Parallel()
			d := dice(100 + i)
			p := newPair(t)
			for range 100 {
				for range d.below(60) {
					if d.below(9) == 0 {
						drawnBegin(&d, p)
					}
					drawnPut(&d, p)
					if d.below(20) == 0 {
						p.putKnown()
						p.install()
					}
				}
				if d.below(5) == 0 {
					p.opened()
				}
			}
			p.again(all())
		})
	}
}

// TestTwoStages: stages in two parts of one disk, which begin side by side or not, know nothing of one another,
// however the disk stops and crashes.
func TestTwoStages(t *testing.T) {
	t.Parallel()
	for i := range 4 {
		t.Run("", func(t *testing.T) {
			t.Parallel()
			d := dice(200 + i)
			disk := fresh(t, 2*least+2*i)
			one, two := unopened(t, disk, i), unopened(t, disk, least+2*i)
			one.opened()
			two.opened()
			for range 150 {
				for range d.below(25) {
					call(&d, one)
					two.same()
					call(&d, two)
					one.same()
				}
				for {
					keep := drawnCrash(&d)
					one.crash(keep)
					two.hit(keep)
					if d.below(3) == 0 {
						disk.Stop(d.below(20))
					}
					if one.open() && two.open() {
						break
					}
				}
			}
		})
	}
}

// TestTwoStagesByTurns: what is staged, put and installed on one is not so on the other.
func TestTwoStagesByTurns(t *testing.T) {
	disk := fresh(t, 2*least)
	one, two := unopened(t, disk, 0), unopened(t, disk, least)
	one.opened()
	two.opened()
	one.begin("ab")
	two.same()
	tells(t, "R3: Put on the other stage", two.put(0, "ab"), api.ErrStageForm)
	one.putAll()
	tells(t, "R3: Install on the other stage", two.install(), api.ErrStageForm)
	two.renew(two.text(5000))
	one.same()
	tells(t, "R3: Install", one.install(), api.OK)
	two.same()
	two.begin("ab")
	one.begin("")
	one.crash(nil)
	two.hit(nil)
	one.opened()
	two.opened()
	if one.now.current != "ab" || len(two.now.current) != 5000 || one.now.m.Size != 0 || two.now.m.Size != 2 {
		t.Errorf("R3: %v, %v", one.now.seen(), two.now.seen())
	}
	if m, is := two.stage.Staged(); !is || chunk.Check(m) != api.OK {
		t.Errorf("R3: %v", m)
	}
}
