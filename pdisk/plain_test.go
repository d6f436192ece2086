package pdisk_test

import (
	"bytes"
	"math"
	"slices"
	"strings"
	"testing"

	"tumulus/api"
	"tumulus/pdisk"
)

// plain is a disk that has all its sectors twice, as texts, and says by the document's words what a disk has
// to answer.
type plain struct {
	now   []string
	safe  []string // what was there behind the last Flush or Crash
	dirty []bool
	down  bool
	stop  bool // whether a Stop is in force
	ahead int  // how many calls come ahead of it
}

func plainNew(n int) *plain {
	none := slices.Repeat([]string{padded("")}, n)
	return &plain{now: none, safe: slices.Clone(none), dirty: make([]bool, n)}
}

// padded is a text with bytes 0 behind it, 64 in all.
func padded(text string) string {
	return text + strings.Repeat("\x00", 64-len(text))
}

func (p *plain) has(at int) bool {
	return at >= 0 && at < len(p.now)
}

// done counts a call that answers OK.
func (p *plain) done() {
	p.ahead--
	if p.stop && p.ahead == 0 {
		p.down = true
	}
}

func (p *plain) write(at int, b []byte) api.Errno {
	switch {
	case p.down:
		return api.ErrDiskDown
	case !p.has(at):
		return api.ErrDiskSector
	case len(b) > 64:
		return api.ErrArg
	}
	p.now[at], p.dirty[at] = padded(string(b)), true
	p.done()
	return api.OK
}

func (p *plain) flush() api.Errno {
	if p.down {
		return api.ErrDiskDown
	}
	p.settle()
	p.done()
	return api.OK
}

func (p *plain) read(at int) (string, api.Errno) {
	if !p.has(at) {
		return "", api.ErrDiskSector
	}
	return p.now[at], api.OK
}

func (p *plain) stopBehind(n int) api.Errno {
	switch {
	case p.down:
		return api.ErrDiskDown
	case n < 0 || n > 1000000:
		return api.ErrArg
	}
	p.stop, p.ahead, p.down = true, n, n == 0
	return api.OK
}

func (p *plain) crash(keep []bool) {
	i := 0
	for at, dirty := range p.dirty {
		if dirty {
			if i >= len(keep) || !keep[i] {
				p.now[at] = p.safe[at]
			}
			i++
		}
	}
	p.settle()
	p.down, p.stop = false, false
}

// settle makes all of it what the next crash brings back.
func (p *plain) settle() {
	copy(p.safe, p.now)
	clear(p.dirty)
}

// pair is a disk and the plain one of which the same is asked.
type pair struct {
	t     *testing.T
	disk  *pdisk.Disk
	plain *plain
}

func newPair(t *testing.T, n int) pair {
	t.Helper()
	return pair{t, fresh(t, n), plainNew(n)}
}

func (p pair) write(at int, b []byte) {
	p.t.Helper()
	if got, want := p.disk.Write(at, b), p.plain.write(at, b); got != want {
		p.t.Fatalf("P7.2: Write(%d, %q): %d, not %d", at, b, got, want)
	}
}

func (p pair) flush() {
	p.t.Helper()
	if got, want := p.disk.Flush(), p.plain.flush(); got != want {
		p.t.Fatalf("P7.2: Flush: %d, not %d", got, want)
	}
}

func (p pair) stop(n int) {
	p.t.Helper()
	if got, want := p.disk.Stop(n), p.plain.stopBehind(n); got != want {
		p.t.Fatalf("P7.3: Stop(%d): %d, not %d", n, got, want)
	}
}

func (p pair) crash(keep []bool) {
	p.t.Helper()
	p.plain.crash(keep)
	if got := p.disk.Crash(keep); got != api.OK {
		p.t.Fatalf("P7.4: Crash(%v): %d", keep, got)
	}
}

func (p pair) read(at int) {
	p.t.Helper()
	got, e := p.disk.Read(at)
	if want, wanted := p.plain.read(at); e != wanted || string(got) != want {
		p.t.Fatalf("P7.1: Read(%d): %q, %d, not %q, %d", at, got, e, want, wanted)
	}
}

// same looks that the two are alike, by every call that changes neither.
func (p pair) same() {
	p.t.Helper()
	if p.disk.Size() != len(p.plain.now) || p.disk.Down() != p.plain.down {
		p.t.Fatalf("P7.1, P7.3: %d, %v, not %d, %v", p.disk.Size(), p.disk.Down(), len(p.plain.now), p.plain.down)
	}
	for at := range p.plain.now {
		p.read(at)
	}
}

func fresh(t *testing.T, n int) *pdisk.Disk {
	t.Helper()
	d, e := pdisk.New(n)
	if e != api.OK || d == nil {
		t.Fatalf("P7.1: New of %d: %v, %d", n, d, e)
	}
	return d
}

// tells looks that a call answers that error.
func tells(t *testing.T, call string, got, want api.Errno) {
	t.Helper()
	if got != want {
		t.Errorf("%s: %d, not %d", call, got, want)
	}
}

// write writes a text, which must be taken.
func write(t *testing.T, d *pdisk.Disk, at int, text string) {
	t.Helper()
	if e := d.Write(at, []byte(text)); e != api.OK {
		t.Fatalf("P7.2: Write(%d, %q): %d", at, text, e)
	}
}

func flush(t *testing.T, d *pdisk.Disk) {
	t.Helper()
	if e := d.Flush(); e != api.OK {
		t.Fatalf("P7.2: Flush: %d", e)
	}
}

func stop(t *testing.T, d *pdisk.Disk, n int) {
	t.Helper()
	if e := d.Stop(n); e != api.OK {
		t.Fatalf("P7.3: Stop(%d): %d", n, e)
	}
}

func crash(t *testing.T, d *pdisk.Disk, keep ...bool) {
	t.Helper()
	if e := d.Crash(keep); e != api.OK {
		t.Fatalf("P7.4: Crash(%v): %d", keep, e)
	}
	if d.Down() {
		t.Fatalf("P7.4: Crash(%v): it has stopped", keep)
	}
}

// has looks that the sectors have these texts, from place 0 on, with bytes 0 behind each of them, and that
// there is no other sector.
func has(t *testing.T, what string, d *pdisk.Disk, texts ...string) {
	t.Helper()
	if d.Size() != len(texts) {
		t.Errorf("%s: %d sectors", what, d.Size())
	}
	for at, text := range texts {
		if b, e := d.Read(at); e != api.OK || string(b) != padded(text) {
			t.Errorf("%s: Read(%d): %q, %d, not %q", what, at, b, e, text)
		}
	}
	if b, e := d.Read(len(texts)); b != nil || e != api.ErrDiskSector {
		t.Errorf("%s: there is a sector behind the last one: %q, %d", what, b, e)
	}
}

// noPlaces are places that no disk of this size has.
func noPlaces(size int) []int {
	return []int{size, size + 1, -1, -2, -size, -size - 1, 4096, 4097, math.MaxInt, math.MaxInt - 1, math.MinInt, math.MinInt + 1}
}

// filled is a text of so many bytes, none of them 0, by a number.
func filled(n, by int) string {
	var b bytes.Buffer
	for i := range n {
		b.WriteByte(byte(1 + (i*7+by)%255))
	}
	return b.String()
}

// dice is a row of numbers by a rule.
type dice uint64

func (d *dice) below(n int) int {
	*d = *d*6364136223846793005 + 1442695040888963407
	return int(uint64(*d) >> 33 % uint64(n))
}
