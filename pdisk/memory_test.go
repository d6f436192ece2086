package pdisk_test

import (
	"bytes"
	"slices"
	"testing"

	"tumulus/api"
)

// spoil changes all of a list, its spare memory too.
func spoil(b []byte) {
	for i := range b[:cap(b)] {
		b[:cap(b)][i] ^= 0xa5
	}
}

// TestWriteKeepsNothing: what a Write is handed stays as it is, its spare memory too, and what is changed in
// it later changes no sector.
func TestWriteKeepsNothing(t *testing.T) {
	for length := range 65 {
		memory := bytes.Repeat([]byte{7}, 200)
		b := memory[50 : 50+length]
		p := newPair(t, 2)
		p.write(1, []byte(filled(64, 3)))
		p.flush()
		p.write(1, b)
		p.read(1)
		if !bytes.Equal(memory, bytes.Repeat([]byte{7}, 200)) {
			t.Fatalf("R2: a Write of %d bytes changed them: %d", length, memory)
		}
		spoil(memory)
		p.same()
		p.write(0, b)
		spoil(memory)
		p.same()
		p.crash([]bool{false, true})
		p.same()
	}
}

// TestReadApart: what a Read gave shares no memory with the disk, nor with what another one gave, dirty
// sectors or not, ahead of a crash and behind it.
func TestReadApart(t *testing.T) {
	p := newPair(t, 3)
	p.write(0, []byte("a"))
	p.write(1, []byte(filled(64, 1)))
	spoilAll(p)
	p.flush()
	spoilAll(p)
	p.write(0, []byte("b"))
	p.write(1, []byte("c"))
	p.write(2, []byte("d"))
	spoilAll(p)
	p.crash([]bool{true, false, true})
	spoilAll(p)
	p.stop(0)
	spoilAll(p)
	p.crash(nil)
	p.same()
}

// spoilAll spoils what two Reads of each sector gave, one behind the other.
func spoilAll(p pair) {
	p.t.Helper()
	for at := range p.disk.Size() {
		first, _ := p.disk.Read(at)
		second, _ := p.disk.Read(at)
		spoil(first)
		if want, _ := p.plain.read(at); string(second) != want {
			p.t.Fatalf("R2: two Reads of one sector share their memory: %q, not %q", second, want)
		}
		p.same()
		spoil(second)
		p.same()
	}
}

// TestReadStays: what a Read gave stays as it is, whatever is done on the disk later.
func TestReadStays(t *testing.T) {
	d := fresh(t, 2)
	write(t, d, 0, "a")
	flush(t, d)
	safe, _ := d.Read(0)
	write(t, d, 0, "b")
	dirty, _ := d.Read(0)
	write(t, d, 0, "c")
	crash(t, d)
	left, _ := d.Read(0)
	write(t, d, 0, "d")
	flush(t, d)
	if string(safe) != padded("a") || string(dirty) != padded("b") || string(left) != padded("a") {
		t.Errorf("R2: what a Read gave was changed later: %q, %q, %q", safe, dirty, left)
	}
}

// TestReadWritten: what a Read gave may be written, into the same sector too, and changed then.
func TestReadWritten(t *testing.T) {
	p := newPair(t, 2)
	p.write(0, []byte(filled(64, 5)))
	b, _ := p.disk.Read(0)
	p.write(1, b)
	p.write(0, b[1:])
	spoil(b)
	p.same()
	p.crash([]bool{true, true})
	p.same()
}

// TestCrashKeepsNothing: the list that a Crash is handed stays as it is, and is not kept.
func TestCrashKeepsNothing(t *testing.T) {
	p := newPair(t, 4)
	keep := []bool{true, false, true, false, true, true}
	before := slices.Clone(keep)
	for at := range 4 {
		p.write(at, []byte("a"))
	}
	p.crash(keep[:3])
	if !slices.Equal(keep, before) {
		t.Errorf("R2: Crash changed its list: %v", keep)
	}
	for i := range keep {
		keep[i] = !keep[i]
	}
	p.same()
	for at := range 4 {
		p.write(at, []byte("b"))
	}
	p.crash(nil)
	p.same()
}

// TestTwoDisks: two disks know nothing of one another.
func TestTwoDisks(t *testing.T) {
	d := dice(5)
	one, two := newPair(t, 3), newPair(t, 3)
	for range 3000 {
		step(&d, one)
		two.same()
		step(&d, two)
		one.same()
		two.same()
	}
}

// TestTwoDisksByTurns: what is dirty, flushed and stopped on one is not so on the other.
func TestTwoDisksByTurns(t *testing.T) {
	one, two := fresh(t, 2), fresh(t, 2)
	write(t, one, 0, "a")
	write(t, two, 0, "b")
	write(t, two, 1, "c")
	flush(t, one)
	stop(t, one, 0)
	crash(t, two, false, true)
	if !one.Down() || two.Down() {
		t.Errorf("R3: stopped: %v, %v", one.Down(), two.Down())
	}
	has(t, "R3: one of two disks", one, "a", "")
	has(t, "R3: the other one", two, "", "c")
	tells(t, "R3: Write on the one that has stopped", one.Write(0, nil), api.ErrDiskDown)
	write(t, two, 0, "d")
	b, _ := one.Read(0)
	write(t, two, 1, string(b))
	crash(t, one)
	has(t, "R3: one of two disks", one, "a", "")
	has(t, "R3: the other one", two, "d", "a")
}
