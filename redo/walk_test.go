package redo_test

import (
	"math"
	"slices"
	"strings"
	"testing"

	"tumulus/api"
	"tumulus/redo"
)

// wrongNumbers are such as are of no log, with some that are.
var wrongNumbers = []int{0, 1, 2, -1, -2, 7, 8, 1024, 1025, 4096, 1 << 31, 1 << 32, -1 << 31, math.MaxInt, math.MaxInt - 1, math.MinInt, math.MinInt + 1}

// drawnText is a text of a length that is drawn: mostly short, such as ends a sector or is all that may be too.
func drawnText(d *dice, p *pair) string {
	switch d.below(12) {
	case 0:
		return ""
	case 1:
		return p.text(lengths[d.below(len(lengths))])
	case 2:
		return p.text(1020 + d.below(8))
	case 3, 4, 5:
		return p.text(40 + d.below(200))
	}
	return p.text(d.below(60))
}

// drawnKeep is what a crash keeps: nothing, all, or some.
func drawnKeep(d *dice) []bool {
	switch d.below(4) {
	case 0:
		return nil
	case 1:
		return all()
	}
	keep := make([]bool, d.below(40))
	few := d.below(2) == 0
	for i := range keep {
		keep[i] = (d.below(4) == 0) == few
	}
	return keep
}

// call asks one call that is drawn.
func call(d *dice, p *pair) {
	p.t.Helper()
	now := p.now()
	switch d.below(16) {
	case 0, 1:
		p.force()
	case 2, 3, 4:
		p.trim(now.first + d.below(len(now.records)+1))
	case 5:
		p.trim(now.next() - min(d.below(3), len(now.records)))
	case 6:
		p.trim(now.first - 1)
		p.trim(now.next() + 1)
		p.trim(wrongNumbers[d.below(len(wrongNumbers))])
	case 7:
		p.disk.Stop(d.below(12))
	case 8:
		p.append(strings.Repeat("a", 1025+d.below(100)))
	default:
		if p.append(drawnText(d, p)) == api.ErrRedoFull {
			p.trim(now.first + d.below(len(now.records)+1))
		}
	}
}

// reborn opens a log behind a crash, on a disk that may stop in that, and crash again.
func reborn(d *dice, p *pair) {
	p.t.Helper()
	if d.below(3) == 0 {
		p.disk.Stop(d.below(5))
	}
	for !p.open() {
		p.crash(drawnKeep(d))
		if d.below(2) == 0 {
			p.disk.Stop(d.below(5))
		}
	}
}

// TestWalk: long rows of calls, crashes and opens that are drawn.
func TestWalk(t *testing.T) {
	t.Parallel()
	for _, sectors := range []int{8, 9, 10, 13, 20, 64, 200, 1024} {
		d := dice(sectors)
		p := newPair(t, sectors)
		for range min(4000, 100000/sectors) {
			for range d.below(12) {
				call(&d, p)
			}
			if d.below(3) > 0 || !p.open() {
				p.crash(drawnKeep(&d))
				reborn(&d, p)
			}
		}
	}
}

// TestWalkSteady: the same without crashes: all that is asked is there.
func TestWalkSteady(t *testing.T) {
	for _, sectors := range []int{8, 11, 30, 300} {
		d := dice(sectors)
		p := newPair(t, sectors)
		for range 3000 {
			text := drawnText(&d, p)
			for p.append(text) == api.ErrRedoFull && len(p.now().records) > 0 {
				p.trim(p.now().first + 1 + d.below(len(p.now().records)))
			}
			if d.below(10) == 0 {
				p.opened()
			}
		}
	}
}

// TestTwoLogs: logs in parts of one disk know nothing of one another, however the disk stops and crashes.
func TestTwoLogs(t *testing.T) {
	disk := fresh(t, 60)
	logs := []*pair{newPart(t, disk, 3, 8), newPart(t, disk, 11, 20), newPart(t, disk, 40, 20)}
	for _, p := range logs {
		p.opened()
	}
	d := dice(7)
	for range 3000 {
		for range d.below(12) {
			call(&d, logs[d.below(len(logs))])
		}
		keep := drawnKeep(&d)
		disk.Crash(keep)
		for _, p := range logs {
			p.had(keep)
		}
		for _, p := range logs {
			p.opened()
		}
	}
}

// TestTwoLogsApart: what is done on one log changes no sector of the other one's part; each is opened alone.
func TestTwoLogsApart(t *testing.T) {
	disk := fresh(t, 32)
	one, two := newPart(t, disk, 0, 16), newPart(t, disk, 16, 16)
	one.opened()
	two.opened()
	d := dice(11)
	for i := range 500 {
		p, at := one, 16
		if i%2 == 1 {
			p, at = two, 0
		}
		before := sectors(t, disk)
		for range 6 {
			if p.append(p.text(d.below(90))) == api.ErrRedoFull {
				p.trim(p.now().next() - d.below(2))
			}
		}
		p.opened()
		if !slices.Equal(sectors(t, disk)[at:at+16], before[at:at+16]) {
			t.Fatal("P8.5: a log wrote into another one's part")
		}
	}
}

// TestTwoDisks: logs on two disks know nothing of one another.
func TestTwoDisks(t *testing.T) {
	one, two := newPair(t, 16), newPair(t, 16)
	one.append("a")
	two.append("b")
	one.append("c")
	two.force()
	one.disk.Stop(0)
	two.append("d")
	tells(t, "R3: Append on the disk that has stopped", one.append("e"), api.ErrDiskDown)
	one.again(nil)
	two.again(all())
	if len(one.now().records) != 0 || len(two.now().records) != 2 {
		t.Errorf("R3: %v, %v", one.now(), two.now())
	}
}

// TestAnything: nothing panics, whatever comes in, in each state of a log and its disk: behind a crash without
// an Open too, and where somebody else wrote.
func TestAnything(t *testing.T) {
	states := []step{
		func(*pair) {},
		short,
		longer,
		func(p *pair) { p.disk.Stop(0) },
		func(p *pair) { p.disk.Stop(1) },
		func(p *pair) { p.disk.Stop(2) },
		func(p *pair) { p.disk.Crash(nil) },
		func(p *pair) { put(p.t, crashed(p.disk), 0, slices.Repeat([]string{"#"}, 20)) },
		func(p *pair) { put(p.t, crashed(p.disk), 0, make([]string, 20)) },
	}
	for _, row := range rows(2, states...) {
		for _, n := range wrongNumbers {
			p := newPair(t, 20)
			p.append(p.text(1))
			for _, s := range row {
				if !p.disk.Down() {
					s(p)
				}
			}
			anything(p, n)
		}
	}
}

// anything asks all calls of a log, which may be used no more.
func anything(p *pair, n int) {
	p.log.Append(strings.Repeat("a", min(max(n, 0), 5000)))
	p.log.Trim(n)
	p.log.Trim(p.log.First() + 1)
	p.log.Force()
	p.log.Append("")
	p.log.Trim(p.log.Next())
	for _, sectors := range wrongNumbers {
		if l, _, _, e := redo.Open(p.disk, n, sectors); e == api.OK {
			l.Append("a")
			l.Trim(l.Next())
		}
		redo.Open(p.disk, sectors, 8)
	}
	redo.Open(p.disk, 0, 20)
}
