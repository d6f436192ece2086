package redo_test

import (
	"slices"
	"strings"
	"testing"

	"tumulus/api"
	"tumulus/code"
	"tumulus/pdisk"
	"tumulus/redo"
	"tumulus/sum"
)

// spoilt looks that Open tells that what lies there is no log's, also of a disk that has stopped, and writes
// nothing.
func spoilt(t *testing.T, what string, d *pdisk.Disk, from, size int) {
	t.Helper()
	before := sectors(t, d)
	refused(t, "P8.1: "+what, d, from, size, api.ErrRedoSpoilt)
	d.Stop(0)
	refused(t, "P8.1, R1: stopped, "+what, d, from, size, api.ErrRedoSpoilt)
	d.Crash(nil)
	if !slices.Equal(sectors(t, d), before) {
		t.Errorf("P8.1: %s: Open wrote into what is no log's", what)
	}
}

// TestNothing: a part of which all bytes are 0 is a new log's, whatever lies beside it.
func TestNothing(t *testing.T) {
	d := fresh(t, 40)
	put(t, d, 0, []string{"#"})
	put(t, d, 17, []string{"#"})
	opens(t, "P8.1: a part of which all bytes are 0", d, 1, 16, 1)
	spoilt(t, "a part with another one's bytes ahead", d, 0, 16)
	spoilt(t, "a part with another one's bytes behind", d, 10, 8)
	put(t, d, 0, make([]string, 40))
	opens(t, "P8.1: a disk whose bytes somebody made 0", d, 0, 40, 1)
}

// TestSpoiltNew: a single byte that is not 0 in a part without a log.
func TestSpoiltNew(t *testing.T) {
	for at := range 8 {
		for place := range 64 {
			for _, x := range []byte{1, 128, 255} {
				d := fresh(t, 8)
				b := make([]byte, 64)
				b[place] = x
				put(t, d, at, []string{string(b)})
				refused(t, "P8.1: a byte that is not 0", d, 0, 8, api.ErrRedoSpoilt)
			}
		}
	}
}

// written is a disk with a log of some records, in sectors 2 to 13; some are trimmed, and the others go around
// the ring's end. Sectors of it are free.
func written(t *testing.T) *pdisk.Disk {
	t.Helper()
	p := newPart(t, fresh(t, 20), 2, 12)
	p.opened()
	for range 9 {
		p.append("")
		p.trim(p.now().next())
	}
	for _, size := range []int{10, 90} {
		p.append(p.text(size))
	}
	p.opened()
	p.append(p.text(30))
	p.force()
	return p.disk
}

// TestSpoiltByte: each byte of a log's sectors changed alone, of those that are free too.
func TestSpoiltByte(t *testing.T) {
	d := written(t)
	list := sectors(t, d)
	for at := 2; at < 14; at++ {
		for place := range 64 {
			for _, turn := range []byte{1, 2, 128, 255} {
				b := []byte(list[at])
				b[place] ^= turn
				put(t, d, at, []string{string(b)})
				refused(t, "P8.1: a byte that is another one", d, 2, 12, api.ErrRedoSpoilt)
			}
		}
		put(t, d, at, list[at:at+1])
	}
	opens(t, "P8.1: behind the changes", d, 2, 12, 10, "1:"+strings.Repeat("z", 8), "2:"+strings.Repeat("z", 88), "3:"+strings.Repeat("z", 28))
}

// TestSpoiltSector: a log's sectors, each in each other one's place, or another text there.
func TestSpoiltSector(t *testing.T) {
	d := written(t)
	list := sectors(t, d)
	for at := 2; at < 14; at++ {
		for _, text := range []string{"x", "\x00\x00\x00\x01", strings.Repeat("\xff", 64), strings.Repeat("\x00", 63) + "\x01", strings.Repeat("redo", 16)} {
			put(t, d, at, []string{text})
			spoilt(t, "a sector of another text", d, 2, 12)
		}
		put(t, d, at, list[at:at+1])
	}
	for other := 3; other < 14; other++ {
		put(t, d, 2, list[other:other+1])
		spoilt(t, "a sector of the ring in the root's place", d, 2, 12)
		put(t, d, 2, list[2:3])
		put(t, d, other, list[2:3])
		spoilt(t, "the root in the ring", d, 2, 12)
		put(t, d, other, list[other:other+1])
	}
}

// TestSpoiltGone: a root that is gone, or records that were there when the log was opened last.
func TestSpoiltGone(t *testing.T) {
	p := newPair(t, 12)
	p.do([]step{short, long, short})
	p.opened()
	list := sectors(t, p.disk)
	for at := range 5 {
		put(t, p.disk, at, []string{""})
		spoilt(t, "a sector that is gone", p.disk, 0, 12)
		put(t, p.disk, at, list[at:at+1])
	}
	p.opened()
}

// TestSpoiltPart: a log of another part: a longer one, a shorter one, one that begins elsewhere; and one whose
// sectors somebody laid elsewhere.
func TestSpoiltPart(t *testing.T) {
	d := written(t)
	for from := range 13 {
		for size := 8; from+size <= 20; size++ {
			if from != 2 || size != 12 {
				spoilt(t, "another part", d, from, size)
			}
		}
	}
	list := sectors(t, d)[2:14]
	for _, from := range []int{0, 1, 3, 8} {
		other := fresh(t, 20)
		put(t, other, from, list)
		spoilt(t, "a log that was laid elsewhere", other, from, 12)
	}
	other := fresh(t, 50)
	put(t, other, 2, list)
	opens(t, "P8.1: the same on another disk", other, 2, 12, 10, "1:"+strings.Repeat("z", 8), "2:"+strings.Repeat("z", 88), "3:"+strings.Repeat("z", 28))
}

// TestSpoiltTexts: records whose texts are a log's sectors make no log of any part in which they lie.
func TestSpoiltTexts(t *testing.T) {
	other := newPart(t, fresh(t, 100), 20, 16)
	other.opened()
	other.do([]step{short, long})
	p := newPair(t, 100)
	for _, text := range sectors(t, other.disk)[20:36] {
		p.append(text)
		p.append(strings.Repeat(text, 3))
	}
	p.force()
	for from := 1; from <= 84; from++ {
		if slices.ContainsFunc(sectors(t, p.disk)[from:from+16], func(s string) bool { return strings.Trim(s, "\x00") != "" }) {
			spoilt(t, "a part of a ring", p.disk, from, 16)
		}
	}
	p.opened()
}

// laid is a sector's bytes by its numbers: what it is, its age, its record, which piece, and how many bytes; by
// its text; and by what stands behind.
func laid(text, behind string, list ...int) string {
	var b []byte
	for _, n := range list {
		b, _ = code.PutNumber(b, n)
	}
	b, _ = code.PutText(b, text)
	b = append(b, behind...)
	return string(sum.Seal(append(b, make([]byte, max(0, 60-len(b)))...)))
}

// TestForged: sectors under a right sum, of which one thing is wrong.
func TestForged(t *testing.T) {
	part := string([]byte{0, 0, 0, 0, 0, 0, 0, 8})
	top := laid(part, "", 1, 2, 5, 3, 0)
	one := laid("ab", "", 2, 2, 5, 0, 2)
	full := strings.Repeat("a", 36)
	forged := func(list ...string) *pdisk.Disk {
		d := fresh(t, 8)
		put(t, d, 0, list)
		return d
	}
	opens(t, "P8.1: no records", forged(top), 0, 8, 5)
	opens(t, "P8.1: a record", forged(top, "", "", "", one), 0, 8, 5, "ab")
	opens(t, "P8.1: a record of two pieces", forged(top, "", "", "", laid(full, "", 2, 2, 5, 0, 38), laid("bc", "", 2, 2, 5, 1, 38)), 0, 8, 5, full+"bc")
	for what, list := range map[string][]string{
		"a root of no kind":                {laid(part, "", 0, 2, 5, 3, 0)},
		"a root that is a piece":           {laid(part, "", 2, 2, 5, 3, 8)},
		"a root of another kind":           {laid(part, "", 3, 2, 5, 3, 0)},
		"a root of no age":                 {laid(part, "", 1, 0, 5, 3, 0)},
		"a root without a First":           {laid(part, "", 1, 2, 0, 3, 0)},
		"a root that leads behind the end": {laid(part, "", 1, 2, 5, 7, 0)},
		"a root that leads far":            {laid(part, "", 1, 2, 5, 2147483647, 0)},
		"a root of a record more":          {laid(part, "", 1, 2, 5, 3, 2), "", "", "", one},
		"a root of many records":           {laid(part, "", 1, 2, 5, 3, 2147483647), "", "", "", one},
		"a root of another part":           {laid(string([]byte{0, 0, 0, 1, 0, 0, 0, 8}), "", 1, 2, 5, 3, 0)},
		"a root of another length":         {laid(string([]byte{0, 0, 0, 0, 0, 0, 0, 9}), "", 1, 2, 5, 3, 0)},
		"a root of no part":                {laid("", "", 1, 2, 5, 3, 0)},
		"a root with a byte behind":        {laid(part, "\x01", 1, 2, 5, 3, 0)},
		"a root with a last byte":          {laid(part, strings.Repeat("\x00", 27)+"\x01", 1, 2, 5, 3, 0)},
		"a piece of no kind":               {top, laid("ab", "", 0, 2, 5, 0, 2)},
		"a piece of another kind":          {top, laid("ab", "", 3, 2, 5, 0, 2)},
		"a piece that is a root":           {top, laid(part, "", 1, 2, 5, 0, 8)},
		"a piece of no age":                {top, laid("ab", "", 2, 0, 5, 0, 2)},
		"a piece of an age to come":        {top, laid("ab", "", 2, 3, 5, 0, 2)},
		"a piece of no record":             {top, laid("ab", "", 2, 2, 0, 0, 2)},
		"a piece behind the last":          {top, laid("ab", "", 2, 2, 5, 1, 2)},
		"a piece far behind the last":      {top, laid("ab", "", 2, 2, 5, 2147483647, 2)},
		"a piece behind full ones":         {top, laid("", "", 2, 2, 5, 1, 36)},
		"a piece that is too short":        {top, laid("a", "", 2, 2, 5, 0, 2)},
		"a piece that is too long":         {top, laid("abc", "", 2, 2, 5, 0, 2)},
		"a first piece that is not full":   {top, laid("ab", "", 2, 2, 5, 0, 38)},
		"a last piece that is full":        {top, laid(full, "", 2, 2, 5, 1, 38)},
		"a piece of too long a record":     {top, laid(full, "", 2, 2, 5, 0, 1025)},
		"a piece of far too long a record": {top, laid(full, "", 2, 2, 5, 0, 2147483647)},
		"a piece with a byte behind":       {top, laid("ab", "\x01", 2, 2, 5, 0, 2)},
		"a piece of more text than fits":   {top, laid("ab", "", 2, 2, 5, 0, 2)[:16] + "\x00\x00\x00\x02" + "\x00\x00\x00\xff"},
		"a head alone":                     {top, string(sum.Seal(append([]byte{0, 0, 0, 2, 128}, make([]byte, 55)...)))},
		"a text that doesn't end":          {top, string(sum.Seal([]byte(laid("ab", "", 2, 2, 5, 0, 2)[:20] + "\x00\x00\x00\x25" + strings.Repeat("a", 36))))},
		"a text of no length":              {top, string(sum.Seal([]byte(laid("ab", "", 2, 2, 5, 0, 2)[:20] + "\x80\x00\x00\x02" + strings.Repeat("a", 36))))},
		"a sum that is another one":        {top, one[:63] + string([]byte{one[63] ^ 1})},
		"zeros under a sum":                {top, string(sum.Seal(make([]byte, 60)))},
		"a root of zeros under a sum":      {string(sum.Seal(make([]byte, 60)))},
		"a piece without a root":           {"", one},
	} {
		spoilt(t, what, forged(list...), 0, 8)
	}
}

// TestForgedLost: pieces that a log may have, but that make no record.
func TestForgedLost(t *testing.T) {
	part := string([]byte{0, 0, 0, 0, 0, 0, 0, 8})
	full := strings.Repeat("a", 36)
	top := laid(part, "", 1, 2, 5, 3, 0)
	first, second := laid(full, "", 2, 2, 5, 0, 38), laid("bc", "", 2, 2, 5, 1, 38)
	for what, list := range map[string][]string{
		"a first piece alone":               {top, "", "", "", first},
		"a second piece alone":              {top, "", "", "", "", second},
		"pieces the other way":              {top, "", "", "", second, first},
		"a first piece twice":               {top, "", "", "", first, first},
		"pieces of two records":             {top, "", "", "", first, laid("bc", "", 2, 2, 6, 1, 38)},
		"pieces of two lengths":             {top, "", "", "", first, laid("bcd", "", 2, 2, 5, 1, 39)},
		"pieces of two ages":                {top, "", "", "", first, laid("bc", "", 2, 1, 5, 1, 38)},
		"a record of an age ahead":          {top, "", "", "", laid("ab", "", 2, 1, 5, 0, 2)},
		"a record that comes next but one":  {top, "", "", "", laid("ab", "", 2, 2, 6, 0, 2)},
		"a record that was the last one":    {top, "", "", "", laid("ab", "", 2, 2, 4, 0, 2)},
		"a record that lies further behind": {top, "", "", "", "", laid("ab", "", 2, 2, 5, 0, 2)},
		"a record longer than the ring":     {top, "", "", "", laid(full, "", 2, 2, 5, 0, 1024)},
	} {
		d := fresh(t, 8)
		put(t, d, 0, list)
		opens(t, "P8.4: "+what, d, 0, 8, 5)
	}
}

// TestForgedGreatest: numbers that can't grow further are told as an error; nothing is laid wrong.
func TestForgedGreatest(t *testing.T) {
	part := string([]byte{0, 0, 0, 0, 0, 0, 0, 8})
	d := fresh(t, 8)
	put(t, d, 0, []string{laid(part, "", 1, api.MaxNumber, 5, 3, 0)})
	before := sectors(t, d)
	if l, first, records, e := redo.Open(d, 0, 8); e == api.OK || l != nil || first != 0 || records != nil {
		t.Errorf("R1: a log that was opened too often: %v, %d, %q, %d", l, first, records, e)
	}
	if !slices.Equal(sectors(t, d), before) {
		t.Error("R1: a log that was opened too often was written")
	}
	put(t, d, 0, []string{laid(part, "", 1, 2, api.MaxNumber, 3, 0)})
	l := opens(t, "P8.1: a log whose First is the greatest", d, 0, 8, api.MaxNumber)
	tells(t, "P8.2: Append", l.Append("a"), api.OK)
	if e := l.Append("b"); e == api.OK || l.Next() != api.MaxNumber+1 {
		t.Errorf("R1: a record of too great a number: %d, Next %d", e, l.Next())
	}
	opens(t, "P8.1: a log whose First is the greatest", d, 0, 8, api.MaxNumber, "a")
}
