package pdisk_test

import (
	"bytes"
	"math"
	"strings"
	"testing"

	"tumulus/api"
	"tumulus/pdisk"
)

func TestExamples(t *testing.T) {
	d := fresh(t, 4)
	write(t, d, 1, "a")
	flush(t, d)
	write(t, d, 1, "b")
	write(t, d, 3, "c")
	crash(t, d, false, true)
	has(t, "P7.4: the first example", d, "", "a", "", "c")

	tells(t, "P7.2: Write(4)", d.Write(4, []byte("a")), api.ErrDiskSector)
	tells(t, "P7.2: Write of 65 bytes", d.Write(0, make([]byte, 65)), api.ErrArg)
	_, e := d.Read(-1)
	tells(t, "P7.1: Read(-1)", e, api.ErrDiskSector)

	stop(t, d, 1)
	write(t, d, 0, "x")
	tells(t, "P7.3: Flush of a disk that has stopped", d.Flush(), api.ErrDiskDown)
	crash(t, d)
	has(t, "P7.4: the third example", d, "", "a", "", "c")
}

func TestNew(t *testing.T) {
	for _, n := range []int{1, 2, 3, 63, 64, 65, 4095, 4096} {
		d := fresh(t, n)
		if d.Size() != n || d.Down() {
			t.Errorf("P7.1: New of %d: %d sectors, stopped: %v", n, d.Size(), d.Down())
		}
		has(t, "P7.1: a new disk", d, make([]string, n)...)
	}
	for _, n := range []int{0, -1, -2, -4096, 4097, 4098, 8192, math.MaxInt, math.MaxInt - 1, math.MinInt, math.MinInt + 1} {
		if d, e := pdisk.New(n); d != nil || e != api.ErrArg {
			t.Errorf("P7.1, R1: New of %d: %v, %d", n, d, e)
		}
	}
}

// TestSize: what is done on a disk does not change how many sectors it has.
func TestSize(t *testing.T) {
	for _, n := range []int{1, 5, 4096} {
		d := fresh(t, n)
		write(t, d, n-1, "a")
		d.Write(n, []byte("a"))
		size := d.Size()
		flush(t, d)
		stop(t, d, 0)
		stopped := d.Size()
		crash(t, d)
		if size != n || stopped != n || d.Size() != n {
			t.Errorf("P7.1: of %d sectors: %d, %d, %d", n, size, stopped, d.Size())
		}
	}
}

// TestRead: the first place, the last one, one between, and such as there are not, on a new disk, behind
// writes, and on a disk that has stopped.
func TestRead(t *testing.T) {
	for _, n := range []int{1, 2, 5, 4095, 4096} {
		d := fresh(t, n)
		texts := make([]string, n)
		readAll(t, "a new disk", d, texts)
		for _, at := range []int{n / 2, 0, n - 1} {
			texts[at] = filled(1+at%64, at)
			write(t, d, at, texts[at])
			readAll(t, "behind a write", d, texts)
		}
		flush(t, d)
		readAll(t, "behind a flush", d, texts)
		texts[0] = "new"
		write(t, d, 0, texts[0])
		stop(t, d, 0)
		readAll(t, "one that has stopped", d, texts)
	}
}

// readAll looks at each place, and that there is no other one.
func readAll(t *testing.T, what string, d *pdisk.Disk, texts []string) {
	t.Helper()
	has(t, "P7.1: "+what, d, texts...)
	for _, at := range noPlaces(len(texts)) {
		if b, e := d.Read(at); b != nil || e != api.ErrDiskSector {
			t.Errorf("P7.1, R1: %s of %d sectors: Read(%d): %q, %d", what, len(texts), at, b, e)
		}
	}
}

// TestWriteLengths: texts of each length, over a full sector and over an empty one, at the first place, the
// last one, and one between; no other sector is changed.
func TestWriteLengths(t *testing.T) {
	for _, n := range []int{1, 2, 7, 4096} {
		for _, at := range []int{0, n / 2, n - 1} {
			p := newPair(t, n)
			for i := range n {
				p.write(i, []byte(filled(64, i)))
			}
			for length := range 65 {
				p.write(at, []byte(filled(64, length)))
				p.write(at, []byte(filled(length, 100)))
				p.read(at)
			}
			for length := 64; length >= 0; length-- {
				p.write(at, []byte(filled(length, 200)))
				p.read(at)
			}
			p.same()
		}
	}
}

// TestWriteOver: what was longer leaves nothing behind what is shorter, bytes 0 of the text are such as any.
func TestWriteOver(t *testing.T) {
	d := fresh(t, 3)
	for _, text := range []string{filled(64, 0), "", filled(63, 1), "a", "\x00", filled(64, 2), "\x00b\x00", strings.Repeat("\xff", 64), strings.Repeat("\x00", 64), "ab"} {
		write(t, d, 1, text)
		has(t, "P7.2: a sector written over", d, "", text, "")
	}
	tells(t, "P7.2: Write of no list", d.Write(1, nil), api.OK)
	has(t, "P7.2: a sector written over by no list", d, "", "", "")
}

// TestWriteTooMuch: what is refused changes nothing, and makes no sector dirty.
func TestWriteTooMuch(t *testing.T) {
	d := fresh(t, 2)
	for _, length := range []int{65, 66, 127, 128, 129, 320, 65536} {
		for at, text := range []string{"", "b"} {
			write(t, d, at, text)
			flush(t, d)
			tells(t, "P7.2: Write of too many bytes", d.Write(at, bytes.Repeat([]byte{1}, length)), api.ErrArg)
		}
		has(t, "P7.2: behind a write of too many bytes", d, "", "b")
		write(t, d, 1, "c")
		crash(t, d, true)
		has(t, "P7.4: a write of too many bytes made a sector dirty", d, "", "c")
	}
}

// TestWriteNoPlace: what is refused changes nothing, and makes no sector dirty.
func TestWriteNoPlace(t *testing.T) {
	for _, n := range []int{1, 2, 5, 4096} {
		d := fresh(t, n)
		texts := make([]string, n)
		texts[0], texts[n-1] = "a", "z"
		write(t, d, 0, texts[0])
		write(t, d, n-1, texts[n-1])
		flush(t, d)
		for _, at := range noPlaces(n) {
			for _, b := range [][]byte{nil, {}, {1}, make([]byte, 64)} {
				tells(t, "P7.2: Write where there is no place", d.Write(at, b), api.ErrDiskSector)
			}
		}
		has(t, "P7.2: behind writes where there is no place", d, texts...)
		texts[n-1] = "y"
		write(t, d, n-1, texts[n-1])
		crash(t, d, true)
		has(t, "P7.4: a write where there is no place made a sector dirty", d, texts...)
	}
}

// TestFirstError: where several errors apply, it is the one that P7.2 and P7.3 name first.
func TestFirstError(t *testing.T) {
	d := fresh(t, 2)
	long, short := make([]byte, 65), []byte("a")
	for _, at := range noPlaces(2) {
		tells(t, "P7.2, R1: no place, too many bytes", d.Write(at, long), api.ErrDiskSector)
	}
	tells(t, "P7.2: too many bytes", d.Write(1, long), api.ErrArg)
	stop(t, d, 0)
	for _, at := range append(noPlaces(2), 0, 1) {
		tells(t, "P7.2, R1: stopped, too many bytes", d.Write(at, long), api.ErrDiskDown)
		tells(t, "P7.2, R1: stopped", d.Write(at, short), api.ErrDiskDown)
	}
	tells(t, "P7.2: stopped", d.Flush(), api.ErrDiskDown)
	has(t, "P7.2: a disk that has stopped", d, "", "")
}

// TestFlush: what was flushed is there behind any crash, what was written behind it is not.
func TestFlush(t *testing.T) {
	d := fresh(t, 3)
	flush(t, d)
	has(t, "P7.2: behind a flush of a new disk", d, "", "", "")
	write(t, d, 2, "c")
	write(t, d, 0, "a")
	write(t, d, 0, "b")
	flush(t, d)
	has(t, "P7.2: behind a flush", d, "b", "", "c")
	flush(t, d)
	crash(t, d)
	has(t, "P7.5: what was flushed, behind a crash", d, "b", "", "c")
	write(t, d, 0, "d")
	flush(t, d)
	write(t, d, 1, "e")
	crash(t, d, false, true, true)
	has(t, "P7.5: what was flushed behind a crash, behind another one", d, "d", "", "c")
}

// TestNil: a nil disk tells ErrNil, whatever comes in, or nothing.
func TestNil(t *testing.T) {
	var d *pdisk.Disk
	if d.Size() != 0 || d.Down() {
		t.Errorf("R3: %d, %v", d.Size(), d.Down())
	}
	for _, n := range append(noPlaces(0), 1, 64, 1000000, 1000001) {
		b, e := d.Read(n)
		if b != nil || e != api.ErrNil {
			t.Errorf("R3: Read(%d) of no disk: %q, %d", n, b, e)
		}
		tells(t, "R3: Write on no disk", d.Write(n, nil), api.ErrNil)
		tells(t, "R3: Write of too much on no disk", d.Write(n, make([]byte, 65)), api.ErrNil)
		tells(t, "R3: Stop of no disk", d.Stop(n), api.ErrNil)
	}
	tells(t, "R3: Flush of no disk", d.Flush(), api.ErrNil)
	tells(t, "R3: Crash of no disk", d.Crash(nil), api.ErrNil)
	tells(t, "R3: Crash of no disk", d.Crash([]bool{true}), api.ErrNil)
}

// TestNotMade: a disk that New did not make has no sectors.
func TestNotMade(t *testing.T) {
	p := pair{t, new(pdisk.Disk), plainNew(0)}
	for _, at := range noPlaces(0) {
		p.write(at, nil)
		p.write(at, make([]byte, 65))
		p.read(at)
		p.flush()
		p.stop(at)
		p.same()
		p.crash([]bool{true})
		p.same()
	}
}
