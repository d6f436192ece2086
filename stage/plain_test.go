package stage_test

import (
	"fmt"
	"hash/crc32"
	"maps"
	"os"
	"runtime/debug"
	"slices"
	"testing"

	"tumulus/api"
	"tumulus/chunk"
	"tumulus/pdisk"
	"tumulus/stage"
)

// TestMain lets the collector run less often: disks are many here, and soon gone.
func TestMain(m *testing.M) {
	debug.SetGCPercent(400)
	os.Exit(m.Run())
}

// least is how many sectors a part has, and so a stage's disk at least.
const least = 320

// plain is what a stage is, by the document's words.
type plain struct {
	current string
	is      bool
	m       chunk.Manifest
	comes   bool
	pieces  map[int]string
	// data is a text of that manifest, from which the pieces that are missing may come.
	data string
}

// begun is a plain stage in which a text's manifest was staged.
func (w plain) begun(m chunk.Manifest, data string) plain {
	return plain{current: w.current, is: w.is, m: copied(m), comes: true, pieces: map[int]string{}, data: data}
}

// full tells whether something is staged, of which no piece is missing.
func (w plain) full() bool {
	return w.comes && len(w.pieces) == len(w.m.Sums)
}

// installed is a plain stage whose staged text became the current one.
func (w plain) installed() plain {
	text := ""
	for i := range w.m.Sums {
		text += w.pieces[i]
	}
	return plain{current: text, is: true}
}

// seen is what a stage tells.
type seen struct {
	current string
	is      bool
	m       chunk.Manifest
	comes   bool
	have    []int
}

func see(s *stage.Stage) seen {
	var v seen
	v.current, v.is = s.Current()
	v.m, v.comes = s.Staged()
	v.have = s.Have()
	return v
}

// seen is what a stage tells that is as that.
func (w plain) seen() seen {
	return seen{w.current, w.is, w.m, w.comes, slices.Sorted(maps.Keys(w.pieces))}
}

func alike(a, b seen) bool {
	return a.current == b.current && a.is == b.is && same(a.m, b.m) && a.comes == b.comes && slices.Equal(a.have, b.have)
}

// String is short enough to be read.
func (v seen) String() string {
	return fmt.Sprintf("{current %d bytes %.9q.. %v, staged %d bytes in %d of %d chunks %v}", len(v.current), v.current, v.is, v.m.Size, len(v.have), len(v.m.Sums), v.comes)
}

// pair is a stage in a part of a disk, and what it may be by the document's words.
type pair struct {
	t     *testing.T
	disk  *pdisk.Disk
	from  int
	stage *stage.Stage
	now   plain
	// safe are the places of the staged pieces that are safe, tried the pieces whose Put answered ErrDiskDown.
	safe  map[int]bool
	tried map[int]string
	// failed is what that Begin or Install makes which answered ErrDiskDown first since all was safe, if there
	// was one.
	failed []plain
	// crashed and lost tell whether there was a crash since it was opened last, and one that did not keep all.
	crashed, lost bool
	texts         int // how many were made
}

// newPair is a stage on a new disk of the least size.
func newPair(t *testing.T) *pair {
	t.Helper()
	p := unopened(t, fresh(t, least), 0)
	p.opened()
	return p
}

// unopened is a part of which no stage was opened yet.
func unopened(t *testing.T, d *pdisk.Disk, from int) *pair {
	return &pair{t: t, disk: d, from: from}
}

// secure is that all is safe, and as w.
func (p *pair) secure(w plain) {
	p.now, p.failed, p.tried, p.safe = w, nil, map[int]string{}, map[int]bool{}
	for i := range w.pieces {
		p.safe[i] = true
	}
}

// may is what a stage may be that tells this when it is opened.
func (p *pair) may(got seen) (plain, bool) {
	if p.crashed {
		for _, f := range p.failed {
			if alike(got, f.seen()) {
				return f, true
			}
		}
	}
	w := p.now
	w.pieces = map[int]string{}
	for _, i := range got.have {
		piece, is := p.now.pieces[i]
		if !is && p.crashed {
			piece, is = p.tried[i]
		}
		if !is {
			return plain{}, false
		}
		w.pieces[i] = piece
	}
	for i := range p.now.pieces {
		if _, is := w.pieces[i]; !is && (p.safe[i] || !p.lost) {
			return plain{}, false
		}
	}
	return w, alike(got, w.seen())
}

// open opens the stage anew, and tells whether the disk let it.
func (p *pair) open() bool {
	p.t.Helper()
	down := p.disk.Down()
	s, e := stage.Open(p.disk, p.from)
	if e == api.ErrDiskDown && p.disk.Down() && s == nil {
		return false
	}
	if e != api.OK || s == nil || down {
		p.t.Fatalf("P11.1: Open: %v, %d (stopped: %v)", see(s), e, down)
	}
	w, is := p.may(see(s))
	if !is {
		p.t.Fatalf("P11.1, P11.4: Open behind %v (crashed: %v, lost: %v; safe: %v; tried: %d): %v", p.now.seen(), p.crashed, p.lost, p.safe, len(p.tried), see(s))
	}
	p.stage, p.crashed, p.lost = s, false, false
	p.secure(w)
	p.same()
	return true
}

// opened opens it on a disk that goes on.
func (p *pair) opened() {
	p.t.Helper()
	if !p.open() {
		p.t.Fatal("P11.1: Open: ErrDiskDown")
	}
}

// same looks at what the stage tells.
func (p *pair) same() {
	p.t.Helper()
	if got := see(p.stage); !alike(got, p.now.seen()) {
		p.t.Fatalf("P11.3: the stage tells %v, not %v", got, p.now.seen())
	}
}

// call makes a call that asks the disk: it answers OK on one that had not stopped, or that this one has.
func (p *pair) call(what string, call func() api.Errno, then func(), failed func()) api.Errno {
	p.t.Helper()
	down := p.disk.Down()
	e := call()
	switch {
	case e == api.OK && !down:
		then()
	case e == api.ErrDiskDown && p.disk.Down():
		failed()
	default:
		p.t.Fatalf("P11.2, P11.3: %s of %v (stopped: %v, then %v): %d", what, p.now.seen(), down, p.disk.Down(), e)
	}
	p.same()
	return e
}

// refuses makes a call that answers that, and asks nothing of the disk.
func (p *pair) refuses(what string, call func() api.Errno, want api.Errno) api.Errno {
	p.t.Helper()
	down := p.disk.Down()
	if e := call(); e != want || p.disk.Down() != down {
		p.t.Fatalf("P11.2, P11.3: %s of %v (stopped: %v, then %v): %d, not %d", what, p.now.seen(), down, p.disk.Down(), e, want)
	}
	p.same()
	return want
}

// fails keeps what a call that was cut short would have left.
func (p *pair) fails(w plain) {
	if p.failed == nil {
		p.failed = []plain{w}
	}
}

// beginOf stages a manifest, of a text that is data.
func (p *pair) beginOf(m chunk.Manifest, data string) api.Errno {
	p.t.Helper()
	begin := func() api.Errno { return p.stage.Begin(m) }
	if !plainRight(m) || m.Size > 5000 {
		return p.refuses("Begin", begin, api.ErrStageForm)
	}
	w := p.now.begun(m, data)
	return p.call("Begin", begin, func() { p.secure(w) }, func() { p.fails(w) })
}

func (p *pair) begin(data string) api.Errno {
	p.t.Helper()
	return p.beginOf(plainOf(data), data)
}

func (p *pair) put(i int, piece string) api.Errno {
	p.t.Helper()
	put := func() api.Errno { return p.stage.Put(i, piece) }
	if !p.now.comes || !plainFits(p.now.m, i, piece) {
		return p.refuses("Put", put, api.ErrStageForm)
	}
	if _, is := p.now.pieces[i]; is {
		return p.refuses("Put", put, api.OK)
	}
	return p.call("Put", put, func() { p.now.pieces[i] = piece }, func() {
		// The disk has stopped: a further one is not written.
		if _, is := p.tried[i]; !is {
			p.tried[i] = piece
		}
	})
}

func (p *pair) force() api.Errno {
	p.t.Helper()
	return p.call("Force", p.stage.Force, func() { p.secure(p.now) }, func() {})
}

func (p *pair) install() api.Errno {
	p.t.Helper()
	if !p.now.full() {
		return p.refuses("Install", p.stage.Install, api.ErrStageForm)
	}
	w := p.now.installed()
	return p.call("Install", p.stage.Install, func() { p.secure(w) }, func() { p.fails(w) })
}

// missing are the places of the staged pieces that are missing.
func (p *pair) missing() []int {
	var list []int
	for i := range p.now.m.Sums {
		if _, is := p.now.pieces[i]; !is {
			list = append(list, i)
		}
	}
	return list
}

// putOne puts the staged text's piece in that place, putAll all those that are missing.
func (p *pair) putOne(i int) {
	p.t.Helper()
	p.put(i, plainCut(p.now.data)[i])
}

func (p *pair) putAll() {
	p.t.Helper()
	for _, i := range p.missing() {
		p.putOne(i)
	}
}

// text is another text each time.
func (p *pair) text(size int) string {
	p.texts++
	d := dice(p.texts)
	return d.text(size)
}

// renew installs a text.
func (p *pair) renew(data string) {
	p.t.Helper()
	p.begin(data)
	p.putAll()
	tells(p.t, "P11.3: Install", p.install(), api.OK)
}

// crash crashes the disk.
func (p *pair) crash(keep []bool) {
	p.t.Helper()
	if e := p.disk.Crash(keep); e != api.OK {
		p.t.Fatalf("P7.4: Crash: %d", e)
	}
	p.hit(keep)
}

// hit is that the disk crashed.
func (p *pair) hit(keep []bool) {
	p.crashed = true
	// A crash keeps all, if its list is as long as the longest disk and has nothing but true.
	p.lost = p.lost || len(keep) < api.MaxSectors || slices.Contains(keep, false)
}

// again crashes the disk, and opens the stage.
func (p *pair) again(keep []bool) {
	p.t.Helper()
	p.crash(keep)
	p.opened()
}

// plainCut is all chunks of a text, told by its words alone.
func plainCut(data string) []string {
	var pieces []string
	for len(data) > 80 {
		pieces, data = append(pieces, data[:80]), data[80:]
	}
	if data != "" {
		pieces = append(pieces, data)
	}
	return pieces
}

func plainSum(piece string) int {
	return int(crc32.ChecksumIEEE([]byte(piece)))
}

// plainOf is the manifest of a text.
func plainOf(data string) chunk.Manifest {
	m := chunk.Manifest{Size: len(data)}
	for _, piece := range plainCut(data) {
		m.Sums = append(m.Sums, plainSum(piece))
	}
	return m
}

func plainRight(m chunk.Manifest) bool {
	for _, s := range m.Sums {
		if s != int(uint32(s)) {
			return false
		}
	}
	return m.Size >= 0 && m.Size <= 65536 && len(m.Sums) == (m.Size+79)/80
}

func plainFits(m chunk.Manifest, i int, piece string) bool {
	return i >= 0 && i < len(m.Sums) && len(piece) == min(80, m.Size-80*i) && plainSum(piece) == m.Sums[i]
}

// double is another piece of as many bytes and the same sum: five neighbours have other bits, those of the
// number by which a sum is made, and the one that falls out ahead of them.
func double(piece string, at int) string {
	b := []byte(piece)
	bits := uint64(3988292384)<<1 | 1
	for i := range 5 {
		b[at+i] ^= byte(bits >> (8 * i))
	}
	return string(b)
}

func same(a, b chunk.Manifest) bool {
	return a.Size == b.Size && slices.Equal(a.Sums, b.Sums)
}

// copied is a manifest that shares nothing with m.
func copied(m chunk.Manifest) chunk.Manifest {
	return chunk.Manifest{Size: m.Size, Sums: slices.Clone(m.Sums)}
}

// all is what a crash keeps that keeps all.
func all() []bool {
	return slices.Repeat([]bool{true}, api.MaxSectors)
}

// keeps is the choice of which a number tells by its lowest bits.
func keeps(mask, bits int) []bool {
	keep := make([]bool, bits)
	for i := range keep {
		keep[i] = mask>>i&1 == 1
	}
	return keep
}

func fresh(t *testing.T, sectors int) *pdisk.Disk {
	t.Helper()
	d, e := pdisk.New(sectors)
	if e != api.OK {
		t.Fatalf("P7.1: New of %d: %d", sectors, e)
	}
	return d
}

// sectors is what a disk has.
func sectors(t *testing.T, d *pdisk.Disk) []string {
	t.Helper()
	list := make([]string, d.Size())
	for at := range list {
		b, e := d.Read(at)
		if e != api.OK {
			t.Fatalf("P7.1: Read(%d): %d", at, e)
		}
		list[at] = string(b)
	}
	return list
}

// lay lays sectors on a disk, and flushes it.
func lay(t *testing.T, d *pdisk.Disk, from int, list ...string) {
	t.Helper()
	for i, text := range list {
		if e := d.Write(from+i, []byte(text)); e != api.OK {
			t.Fatalf("P7.2: Write(%d): %d", from+i, e)
		}
	}
	if e := d.Flush(); e != api.OK {
		t.Fatalf("P7.2: Flush: %d", e)
	}
}

// laid is a new disk that has these sectors, and nothing dirty.
func laid(t *testing.T, list []string) *pdisk.Disk {
	t.Helper()
	d := fresh(t, len(list))
	lay(t, d, 0, list...)
	return d
}

// tells looks that a call answers that error.
func tells(t *testing.T, call string, got, want api.Errno) {
	t.Helper()
	if got != want {
		t.Fatalf("%s: %d, not %d", call, got, want)
	}
}

// dice is a row of numbers by a rule.
type dice uint64

func (d *dice) below(n int) int {
	*d = *d*6364136223846793005 + 1442695040888963407
	return int(uint64(*d) >> 33 % uint64(n))
}

// text is a drawn text, of any bytes.
func (d *dice) text(size int) string {
	b := make([]byte, size)
	for i := range b {
		b[i] = byte(d.below(256))
	}
	return string(b)
}
