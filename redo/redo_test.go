package redo_test

import (
	"math"
	"slices"
	"strings"
	"testing"

	"tumulus/api"
	"tumulus/pdisk"
	"tumulus/redo"
)

// opens looks at what Open of a part tells, and at First and Next behind it.
func opens(t *testing.T, what string, d *pdisk.Disk, from, sectors, first int, records ...string) *redo.Log {
	t.Helper()
	l, n, got, e := redo.Open(d, from, sectors)
	if e != api.OK || n != first || !slices.Equal(got, records) || l.First() != first || l.Next() != first+len(records) {
		t.Fatalf("%s: First %d, %q, %d, Next %d, not %d, %q", what, n, got, e, l.Next(), first, records)
	}
	return l
}

// refused looks that Open tells that error, and nothing else.
func refused(t *testing.T, what string, d *pdisk.Disk, from, sectors int, want api.Errno) {
	t.Helper()
	if l, first, records, e := redo.Open(d, from, sectors); e != want || l != nil || first != 0 || records != nil {
		t.Errorf("%s: Open(%d, %d): %v, %d, %q, %d, not %d alone", what, from, sectors, l, first, records, e, want)
	}
}

func TestExamples(t *testing.T) {
	d := fresh(t, 16)
	l := opens(t, "P8.1: a new disk", d, 0, 16, 1)
	for _, text := range []string{"a", "b", "c"} {
		tells(t, "P8.2: Append", l.Append(text), api.OK)
	}
	tells(t, "P8.3: Trim(2)", l.Trim(2), api.OK)
	if l.First() != 2 || l.Next() != 4 {
		t.Errorf("P8.3: First %d, Next %d", l.First(), l.Next())
	}
	tells(t, "P8.2: Append", l.Append("d"), api.OK)
	d.Crash(nil)
	l = opens(t, "P8.4: the second example", d, 0, 16, 2, "b", "c")
	tells(t, "P8.2: Append", l.Append("d"), api.OK)
	tells(t, "P8.3: Force", l.Force(), api.OK)
	d.Crash(nil)
	l = opens(t, "P8.4: the third example", d, 0, 16, 2, "b", "c", "d")
	tells(t, "P8.3: Trim(1)", l.Trim(1), api.ErrArg)
	tells(t, "P8.3: Trim(6)", l.Trim(6), api.ErrArg)
	tells(t, "P8.2: Append of 1025 bytes", l.Append(strings.Repeat("a", 1025)), api.ErrLimit)
	refused(t, "P8.1", d, 0, 7, api.ErrArg)
	opens(t, "P8.1: behind what was refused", d, 0, 16, 2, "b", "c", "d")
}

// TestOpenNoDisk: ErrNil, whatever the part is.
func TestOpenNoDisk(t *testing.T) {
	for _, from := range []int{0, 1, -1, math.MaxInt, math.MinInt} {
		for _, sectors := range []int{8, 16, 0, -1, math.MaxInt, math.MinInt} {
			refused(t, "P8.1, R1: no disk", nil, from, sectors, api.ErrNil)
		}
	}
}

// TestOpenSectors: so many sectors as no part has, on disks that are longer, and the fewest and the most.
func TestOpenSectors(t *testing.T) {
	for _, size := range []int{1, 7, 8, 1024, 4096} {
		d := fresh(t, size)
		for _, n := range []int{7, 1025, 1026, 4096, 6, 1, 0, -1, -8, math.MaxInt, math.MaxInt - 1, math.MinInt, math.MinInt + 1} {
			for _, from := range []int{0, 1, -1, size - n} {
				refused(t, "P8.1: a wrong number of sectors", d, from, n, api.ErrArg)
			}
		}
		if slices.ContainsFunc(sectors(t, d), func(s string) bool { return strings.Trim(s, "\x00") != "" }) {
			t.Error("P8.1: what was refused was written")
		}
	}
	for _, n := range []int{8, 9, 1023, 1024} {
		opens(t, "P8.1: a part as long as the disk", fresh(t, n), 0, n, 1)
		opens(t, "P8.1: a part of a disk", fresh(t, 4096), 1000, n, 1)
	}
}

// TestOpenPlaces: parts that begin ahead of the disk, end at its end, behind it, and far behind it.
func TestOpenPlaces(t *testing.T) {
	for _, size := range []int{8, 9, 20, 4096} {
		for _, n := range []int{8, 9, 20, 1024} {
			for _, from := range []int{-1, -2, -n, size - n + 1, size - n + 2, size - 1, size, size + 1, math.MaxInt, math.MaxInt - n, math.MaxInt - n + 1, math.MinInt, math.MinInt + 1, math.MinInt + n} {
				if from >= 0 && from+n <= size && from+n > 0 {
					continue
				}
				refused(t, "P8.1: a part that is not all in the disk", fresh(t, size), from, n, api.ErrArg)
			}
			if size >= n {
				opens(t, "P8.1: a part at the disk's end", fresh(t, size), size-n, n, 1)
				opens(t, "P8.1: a part at the disk's beginning", fresh(t, size), 0, n, 1)
			}
		}
	}
	refused(t, "P8.1: a disk that New did not make", new(pdisk.Disk), 0, 8, api.ErrArg)
}

// TestPartAlone: a log asks nothing of what lies ahead of its part or behind it, and writes nothing there.
func TestPartAlone(t *testing.T) {
	d := fresh(t, 30)
	around := slices.Repeat([]string{strings.Repeat("#", 64)}, 30)
	put(t, d, 0, around[:10])
	put(t, d, 22, around[22:])
	p := newPart(t, d, 10, 12)
	p.opened()
	for range 40 {
		p.append(p.text(1))
		p.append(p.text(64))
		p.trim(p.now().next() - 1)
	}
	p.again(nil)
	if got := sectors(t, d); !slices.Equal(got[:10], around[:10]) || !slices.Equal(got[22:], around[22:]) {
		t.Errorf("P8.1: a log wrote beside its part: %q", got)
	}
}

// TestAppendLengths: texts of each length that a record may have, and of such as none has.
func TestAppendLengths(t *testing.T) {
	p := newPair(t, 100)
	for n := range 1024 + 1 {
		if e := p.append(p.text(n)[:n]); e != api.OK {
			t.Fatalf("P8.2: Append of %d bytes: %d", n, e)
		}
		if n%9 == 0 {
			p.again(all())
		}
		for p.now().cost()+cost(n+1) > 94 {
			p.trim(p.now().first + 1)
		}
	}
	for _, n := range []int{1025, 1026, 2048, 65536, 65537, 1 << 20} {
		tells(t, "P8.2: Append of too many bytes", p.append(strings.Repeat("a", n)), api.ErrLimit)
	}
	p.again(all())
}

// TestAppendTooMuch: a text that is too long is refused as such, be there room or not.
func TestAppendTooMuch(t *testing.T) {
	p := newPair(t, 8)
	for range 20 {
		tells(t, "P8.2: Append of 1024 bytes", p.append(p.text(1024)), api.ErrRedoFull)
		tells(t, "P8.2: Append of 1025 bytes", p.append(p.text(1025)), api.ErrLimit)
		p.append("")
	}
	p.disk.Stop(0)
	tells(t, "P8.2, R1: Append of 1025 bytes on a disk that has stopped", p.append(p.text(1025)), api.ErrLimit)
	tells(t, "P8.2, R1: Append of 1024 bytes on a disk that has stopped", p.append(p.text(1024)), api.ErrRedoFull)
}

// TestAnyBytes: records have whatever bytes, such as the disk has too.
func TestAnyBytes(t *testing.T) {
	p := newPair(t, 200)
	var each strings.Builder
	for i := range 256 {
		each.WriteByte(byte(i))
	}
	texts := []string{"", "\x00", "\xff", each.String(), strings.Repeat(each.String(), 4)}
	for _, n := range []int{31, 32, 33, 64, 1024} {
		texts = append(texts, strings.Repeat("\x00", n), strings.Repeat("\xff", n), strings.Repeat("\x00", n-1)+"\x01")
	}
	for round := range 3 {
		for _, text := range texts {
			p.append(text)
			p.again(all())
			p.trim(p.now().next() - min(4, len(p.now().records)))
		}
		for _, text := range sectors(p.t, p.disk)[:9+round] {
			p.append(text)
			p.append(text + text)
			p.force()
			p.again(nil)
			p.trim(p.now().next() - 2)
		}
	}
}

// TestTrim: each number that is right, and such as are not, of logs with and without records.
func TestTrim(t *testing.T) {
	for gone := range 3 {
		for left := range 5 {
			first := 1 + gone
			next := first + left
			for n := first - 4; n <= next+3; n++ {
				p := newPair(t, 16)
				for range gone {
					p.append(p.text(1))
				}
				p.trim(first)
				for range left {
					p.append(p.text(40))
				}
				for _, wrong := range []int{first - 1, next + 1, 0, -1, math.MaxInt, math.MinInt} {
					tells(t, "P8.3: Trim of no number", p.trim(wrong), api.ErrArg)
				}
				p.trim(n)
				p.append(p.text(1))
				p.open()
				p.again(nil)
				p.trim(p.now().first)
				p.trim(p.now().next())
				p.again(nil)
			}
		}
	}
}

// TestTrimSafe: a Trim makes what it leaves safe, also where nothing is trimmed.
func TestTrimSafe(t *testing.T) {
	for trimmed := range 4 {
		p := newPair(t, 16)
		for range 3 {
			p.append(p.text(50))
		}
		tells(t, "P8.3: Trim", p.trim(1+trimmed), api.OK)
		p.again(nil)
	}
}

// TestForce: what was forced is there behind any crash, what came later need not.
func TestForce(t *testing.T) {
	p := newPair(t, 20)
	tells(t, "P8.3: Force of a new log", p.force(), api.OK)
	p.again(nil)
	for i := range 6 {
		p.append(p.text(40 * (i % 2)))
		tells(t, "P8.3: Force", p.force(), api.OK)
		tells(t, "P8.3: Force again", p.force(), api.OK)
		p.append(p.text(1))
		p.again(nil)
		if p.now().next() != i+2 {
			t.Fatalf("P8.5: Next %d", p.now().next())
		}
		p.trim(p.now().first + i%2)
	}
}

// TestOpenAgain: of a disk that did not crash Open tells all, and it is safe then.
func TestOpenAgain(t *testing.T) {
	p := newPair(t, 16)
	for i := range 30 {
		p.append(p.text(40 * (i % 2)))
		p.opened()
		p.opened()
		p.append(p.text(1))
		p.opened()
		p.again(nil)
		p.again(keeps(1, 1))
		p.trim(p.now().next() - i%3)
		p.opened()
	}
}

// TestStopped: a log whose disk has stopped answers the disk's error, and nothing is changed.
func TestStopped(t *testing.T) {
	for n := range 3 {
		p := newPair(t, 16)
		for range n {
			p.append(p.text(1))
		}
		p.force()
		p.disk.Stop(0)
		tells(t, "P8.2: Append", p.append(p.text(1)), api.ErrDiskDown)
		tells(t, "P8.2: Append of no bytes", p.append(""), api.ErrDiskDown)
		tells(t, "P8.3: Force", p.force(), api.ErrDiskDown)
		for i := range n + 1 {
			tells(t, "P8.3: Trim", p.trim(1+i), api.ErrDiskDown)
		}
		tells(t, "P8.3: Trim of no number", p.trim(0), api.ErrArg)
		tells(t, "P8.3: Trim of no number", p.trim(n+2), api.ErrArg)
		refused(t, "P8.1: a disk that has stopped", p.disk, 0, 16, api.ErrDiskDown)
		refused(t, "P8.1, R1: a disk that has stopped, and a wrong part", p.disk, 0, 17, api.ErrArg)
		opens(t, "P8.4: behind the crash", crashed(p.disk), 0, 16, 1, p.now().records...)
	}
	d := fresh(t, 16)
	d.Stop(0)
	refused(t, "P8.1: a new disk that has stopped", d, 0, 16, api.ErrDiskDown)
	opens(t, "P8.1: a new disk behind a crash", crashed(d), 0, 16, 1)
}

// crashed crashes a disk, and keeps nothing.
func crashed(d *pdisk.Disk) *pdisk.Disk {
	d.Crash(nil)
	return d
}

// TestNoLog: no log tells ErrNil, or 0; likewise one that Open did not make.
func TestNoLog(t *testing.T) {
	for _, l := range []*redo.Log{nil, new(redo.Log)} {
		for _, n := range []int{0, 1, -1, math.MaxInt, math.MinInt} {
			tells(t, "R3: Trim of no log", l.Trim(n), api.ErrNil)
		}
		for _, n := range []int{0, 1, 1024, 1025} {
			tells(t, "R3: Append to no log", l.Append(strings.Repeat("a", n)), api.ErrNil)
		}
		tells(t, "R3: Force of no log", l.Force(), api.ErrNil)
		if l.First() != 0 || l.Next() != 0 {
			t.Errorf("R3: no log: First %d, Next %d", l.First(), l.Next())
		}
	}
}
