package redo_test

import (
	"slices"
	"strconv"
	"strings"
	"testing"

	"tumulus/api"
	"tumulus/pdisk"
	"tumulus/redo"
)

// state is a log's First and its records.
type state struct {
	first   int
	records []string
}

func (s state) next() int {
	return s.first + len(s.records)
}

func (s state) with(text string) state {
	return state{s.first, append(slices.Clone(s.records), text)}
}

func (s state) trimmed(n int) state {
	return state{n, slices.Clone(s.records[n-s.first:])}
}

func (s state) same(o state) bool {
	return s.first == o.first && slices.Equal(s.records, o.records)
}

// cost is what a record of so many bytes costs: 2, and one for each 32 bytes that it has.
func cost(size int) int {
	return 2 + size/32
}

func (s state) cost() int {
	sum := 0
	for _, text := range s.records {
		sum += cost(len(text))
	}
	return sum
}

// pair is a log, and what it may be by the document's words.
type pair struct {
	t             *testing.T
	disk          *pdisk.Disk
	from, sectors int
	log           *redo.Log
	// made is what it was when it was last safe, and what each call that answered OK since then made of it.
	made []state
	// failed is what that call makes that answered ErrDiskDown first since then, if there was one.
	failed []state
	// crashed and lost tell whether there was a crash since it was opened last, and one that did not keep all.
	crashed, lost bool
	texts         int
}

// newPair is a log of a whole new disk.
func newPair(t *testing.T, sectors int) *pair {
	t.Helper()
	p := newPart(t, fresh(t, sectors), 0, sectors)
	p.opened()
	return p
}

// newPart is a log of a part of which all bytes are 0, that is not opened yet.
func newPart(t *testing.T, d *pdisk.Disk, from, sectors int) *pair {
	return &pair{t: t, disk: d, from: from, sectors: sectors, made: []state{{first: 1}}}
}

func (p *pair) now() state {
	return p.made[len(p.made)-1]
}

// safe is what there is when all of it is safe.
func (p *pair) safe(s state) {
	p.made, p.failed = []state{s}, nil
}

// fail is what a call makes that answered ErrDiskDown.
func (p *pair) fail(s state) {
	p.t.Helper()
	if !p.disk.Down() {
		p.t.Fatal("ErrDiskDown of a disk that has not stopped")
	}
	if p.failed == nil {
		p.failed = []state{s}
	}
}

// may is what Open may tell.
func (p *pair) may() []state {
	switch {
	case !p.crashed:
		return []state{p.now()}
	case !p.lost:
		return append([]state{p.now()}, p.failed...)
	}
	return append(slices.Clone(p.made), p.failed...)
}

// open opens the log anew, and tells whether the disk let it.
func (p *pair) open() bool {
	p.t.Helper()
	down := p.disk.Down()
	l, first, records, e := redo.Open(p.disk, p.from, p.sectors)
	if e == api.ErrDiskDown && p.disk.Down() && l == nil && first == 0 && records == nil {
		return false
	}
	got := state{first, slices.Clone(records)}
	if e != api.OK || l == nil || down || !slices.ContainsFunc(p.may(), got.same) {
		p.t.Fatalf("P8.1, P8.4: Open: %v, %d, %q, %d (stopped: %v), not one of %v", l, first, records, e, down, p.may())
	}
	for i := range records {
		records[i] = "spoilt"
	}
	p.log, p.crashed, p.lost = l, false, false
	p.safe(got)
	p.same()
	return true
}

// opened opens it on a disk that goes on.
func (p *pair) opened() {
	p.t.Helper()
	if !p.open() {
		p.t.Fatal("P8.1: Open: ErrDiskDown")
	}
}

// same looks at what a log tells without being changed.
func (p *pair) same() {
	p.t.Helper()
	if s := p.now(); p.log.First() != s.first || p.log.Next() != s.next() {
		p.t.Fatalf("P8.2: First %d, Next %d, not of %d, %q", p.log.First(), p.log.Next(), s.first, s.records)
	}
}

func (p *pair) append(text string) api.Errno {
	p.t.Helper()
	down, now, long := p.disk.Down(), p.now(), len(text) > 1024
	e := p.log.Append(text)
	fits := now.cost()+cost(len(text)) <= p.sectors-6
	switch {
	case e == api.ErrDiskDown && !long:
		p.fail(now.with(text))
	case e == api.OK && !long && !down:
		p.made = append(p.made, now.with(text))
	case e == api.ErrLimit && long, e == api.ErrRedoFull && !long && !fits:
	default:
		p.t.Fatalf("P8.2: Append of %d bytes to %d, of a cost of %d, in %d sectors (stopped: %v): %d", len(text), len(now.records), now.cost(), p.sectors, down, e)
	}
	p.same()
	return e
}

func (p *pair) trim(n int) api.Errno {
	p.t.Helper()
	down, now := p.disk.Down(), p.now()
	e := p.log.Trim(n)
	right := n >= now.first && n <= now.next()
	switch {
	case e == api.ErrDiskDown && right:
		p.fail(now.trimmed(n))
	case e == api.OK && right && !down:
		p.safe(now.trimmed(n))
	case e == api.ErrArg && !right:
	default:
		p.t.Fatalf("P8.3: Trim(%d) of %d to %d (stopped: %v): %d", n, now.first, now.next(), down, e)
	}
	p.same()
	return e
}

func (p *pair) force() api.Errno {
	p.t.Helper()
	down := p.disk.Down()
	e := p.log.Force()
	switch {
	case e == api.ErrDiskDown && p.disk.Down():
	case e == api.OK && !down:
		p.safe(p.now())
	default:
		p.t.Fatalf("P8.3: Force (stopped: %v): %d", down, e)
	}
	p.same()
	return e
}

// crash crashes the disk, on which there is no other log.
func (p *pair) crash(keep []bool) {
	p.t.Helper()
	if e := p.disk.Crash(keep); e != api.OK {
		p.t.Fatalf("P7.4: Crash: %d", e)
	}
	p.had(keep)
}

// had takes note of a crash. One keeps all, if its list is as long as the longest disk and has nothing but true.
func (p *pair) had(keep []bool) {
	p.crashed = true
	p.lost = p.lost || len(keep) < api.MaxSectors || slices.Contains(keep, false)
}

// again crashes the disk, and opens the log.
func (p *pair) again(keep []bool) {
	p.t.Helper()
	p.crash(keep)
	p.opened()
}

// text is one of so many bytes at least, that no other record has, but for its end.
func (p *pair) text(size int) string {
	p.texts++
	own := strconv.Itoa(p.texts) + ":"
	return own + strings.Repeat("z", max(0, size-len(own)))
}

// all keeps whatever there is.
func all() []bool {
	return slices.Repeat([]bool{true}, api.MaxSectors)
}

// keeps is the choice of which a number tells by its lowest bits.
func keeps(mask, bits int) []bool {
	keep := make([]bool, bits)
	for i := range keep {
		keep[i] = mask>>i&1 == 1
	}
	return keep
}

func fresh(t *testing.T, sectors int) *pdisk.Disk {
	t.Helper()
	d, e := pdisk.New(sectors)
	if e != api.OK {
		t.Fatalf("P7.1: New of %d: %d", sectors, e)
	}
	return d
}

// sectors is what a disk has.
func sectors(t *testing.T, d *pdisk.Disk) []string {
	t.Helper()
	list := make([]string, d.Size())
	for at := range list {
		b, e := d.Read(at)
		if e != api.OK {
			t.Fatalf("P7.1: Read(%d): %d", at, e)
		}
		list[at] = string(b)
	}
	return list
}

// put lays sectors on a disk, and flushes it.
func put(t *testing.T, d *pdisk.Disk, from int, list []string) {
	t.Helper()
	for i, text := range list {
		if e := d.Write(from+i, []byte(text)); e != api.OK {
			t.Fatalf("P7.2: Write(%d): %d", from+i, e)
		}
	}
	if e := d.Flush(); e != api.OK {
		t.Fatalf("P7.2: Flush: %d", e)
	}
}

// tells looks that a call answers that error.
func tells(t *testing.T, call string, got, want api.Errno) {
	t.Helper()
	if got != want {
		t.Errorf("%s: %d, not %d", call, got, want)
	}
}

// dice is a row of numbers by a rule.
type dice uint64

func (d *dice) below(n int) int {
	*d = *d*6364136223846793005 + 1442695040888963407
	return int(uint64(*d) >> 33 % uint64(n))
}
