package pheap_test

import (
	"math"
	"slices"
	"strings"
	"testing"

	"tumulus/api"
	"tumulus/heap"
	"tumulus/image"
	"tumulus/pdisk"
	"tumulus/pheap"
	"tumulus/redo"
	"tumulus/sum"
)

// spoilt looks that Open tells that what lies there is no heap's of that order, also of a disk that has stopped,
// and writes nothing.
func spoilt(t *testing.T, what string, d *pdisk.Disk, order int) {
	t.Helper()
	before := sectors(t, d)
	refused(t, "P9.1: "+what, d, order, api.ErrPheapSpoilt, api.ErrRedoSpoilt)
	d.Stop(0)
	refused(t, "P9.1, R1: stopped, "+what, d, order, api.ErrPheapSpoilt, api.ErrRedoSpoilt)
	d.Crash(nil)
	if !slices.Equal(sectors(t, d), before) {
		t.Errorf("P9.1: %s: Open wrote into what is no heap's", what)
	}
}

// TestSpoiltBlank: a disk whose bytes are all 0 is a new heap's, also one that somebody made so; with one byte
// that is another one it is none's, wherever this is, on longer disks too.
func TestSpoiltBlank(t *testing.T) {
	d := fresh(t, 300)
	for at := range 300 {
		text := strings.Repeat("\x00", at*7%64) + "\x01"
		put(t, d, at, []string{text})
		spoilt(t, "a byte on a disk without a heap", d, 3+at%6)
		put(t, d, at, []string{""})
	}
	opens(t, "P9.1: a disk whose bytes are all 0 again", d, made(4))
	long := fresh(t, api.MaxSectors)
	put(t, long, api.MaxSectors-1, []string{strings.Repeat("\x00", 63) + "\x80"})
	spoilt(t, "the last byte of the longest disk", long, 3)
}

// lived is the disk of a heap on which something was done and forced; it is longer than it must be.
func lived(t *testing.T) *pair {
	t.Helper()
	p := unopened(t, 270, 4)
	p.opened()
	for i := range 140 {
		p.do(alloc(2, 1))
		p.do(write(p.now().Next-1, i%2, i))
		p.do(free(p.now().Next - 3))
	}
	p.opened()
	for i := range 5 {
		p.do(root(0, p.now().Next-1-i%2))
	}
	p.force()
	return p
}

// TestSpoiltByte: one byte of a heap's disk changed alone: every third one of each sector.
func TestSpoiltByte(t *testing.T) {
	t.Parallel()
	p := lived(t)
	list := sectors(t, p.disk)
	for at, text := range list {
		for place := at % 3; place < 64; place += 3 {
			b := []byte(text)
			b[place] ^= []byte{1, 2, 128, 255}[place%4]
			put(t, p.disk, at, []string{string(b)})
			refused(t, "P9.1: a byte that is another one", p.disk, 4, api.ErrPheapSpoilt, api.ErrRedoSpoilt)
		}
		put(t, p.disk, at, []string{text})
	}
	p.opened()
}

// TestSpoiltSector: a heap's sectors, with another text in each.
func TestSpoiltSector(t *testing.T) {
	t.Parallel()
	p := lived(t)
	list := sectors(t, p.disk)
	for at, text := range list {
		for _, other := range []string{"x", strings.Repeat("\xff", 64), strings.Repeat("\x00", 63) + "\x01", list[0]} {
			if at > 0 || other != list[0] {
				put(t, p.disk, at, []string{other})
				spoilt(t, "a sector of another text", p.disk, 4)
			}
		}
		put(t, p.disk, at, []string{text})
	}
	p.opened()
}

// TestSpoiltShort: a heap's sectors on a disk that is shorter, longer, and in other places.
func TestSpoiltShort(t *testing.T) {
	list := sectors(t, lived(t).disk)
	refused(t, "P9.1: a heap's sectors, too few", laid(t, list[:255]), 4, api.ErrArg)
	spoilt(t, "a heap's sectors, without the first one", laid(t, list[1:]), 4)
	spoilt(t, "a heap's sectors, one place on", laid(t, append([]string{""}, list...)), 4)
	for _, size := range []int{256, 257, 270} {
		p, e := pheap.Open(laid(t, list[:size]), 4)
		if e != api.OK || heap.Check(p.Heap()) != api.OK {
			t.Errorf("P9.1: a heap's sectors on a disk of %d: %d", size, e)
		}
	}
}

// logged is a disk with a log that has these records, and so many that were let go.
func logged(t *testing.T, gone int, records ...string) *pdisk.Disk {
	t.Helper()
	d := fresh(t, least)
	l, _, _, e := redo.Open(d, 0, least)
	for range gone {
		l.Append("")
		l.Trim(l.Next())
	}
	for _, r := range records {
		if e == api.OK {
			e = l.Append(r)
		}
	}
	if e != api.OK || l.Force() != api.OK {
		t.Fatalf("P8.2: a log of %d records: %d", len(records), e)
	}
	return d
}

// records are what the log on a heap's disk has.
func records(t *testing.T, d *pdisk.Disk) []string {
	t.Helper()
	_, _, list, e := redo.Open(laid(t, sectors(t, d)), 0, least)
	if e != api.OK {
		t.Fatalf("P8.1: Open: %d", e)
	}
	return list
}

// TestSpoiltLog: logs that are no heap's.
func TestSpoiltLog(t *testing.T) {
	opens(t, "P9.1: a log in which nothing was laid", logged(t, 0), made(3))
	spoilt(t, "a log of which all was let go", logged(t, 1), 3)
	for _, text := range []string{"", "a", "o", "p", "l", "\x00", "\x01", strings.Repeat("\x00", 56), strings.Repeat("\x00", 57), strings.Repeat("o", 57), strings.Repeat("l", 1024), strings.Repeat("p", 1024), "l\x05", "l\x04\x01", "l\xff", "l\x01", "p\x01\x03"} {
		for gone := range 2 {
			spoilt(t, "a log of a text", logged(t, gone, text), 3)
			spoilt(t, "a log of two texts", logged(t, gone, text, text), 3)
		}
	}
	raw, _ := image.PutHeap(made(3))
	spoilt(t, "a log of an image as such", logged(t, 0, string(raw)), 3)
	small := fresh(t, least)
	redo.Open(small, 0, 16)
	spoilt(t, "a log of another part", small, 3)
	part := fresh(t, 300)
	redo.Open(part, 1, least)
	spoilt(t, "a log that begins elsewhere", part, 3)
	two := fresh(t, 300)
	redo.Open(two, 0, least)
	redo.Open(two, least, 16)
	spoilt(t, "a log behind another one", two, 3)
}

// op is an operation as a record, as a heap's log has it behind an image.
func op(t *testing.T, o api.Op) string {
	t.Helper()
	p := newPair(t, 3)
	p.do(alloc(0, 0))
	r := records(t, p.disk)[1]
	laid := string(image.PutOp(alloc(0, 0)))
	if !strings.HasSuffix(r, laid) {
		t.Fatalf("P9.2: an operation's record is %q", r)
	}
	return strings.TrimSuffix(r, laid) + string(image.PutOp(o))
}

// TestForged: logs of records that heaps have, put together as none has them.
func TestForged(t *testing.T) {
	p := newPair(t, 3)
	whole := records(t, p.disk)[0]
	other := records(t, newPair(t, 4).disk)[0]
	p.do(alloc(2, 0))
	p.secure("c")
	next := records(t, p.disk)[0]
	count := op(t, alloc(2, 0))
	opens(t, "P9.1: an image", logged(t, 3, whole), made(3))
	opens(t, "P9.1: an image and an operation", logged(t, 0, whole, count), made(3, alloc(2, 0)))
	opens(t, "P9.1: an image, an operation, and the next image", logged(t, 0, whole, count, next), made(3, alloc(2, 0)))
	opens(t, "P9.1: an image twice", logged(t, 0, whole, whole), made(3))
	roots := slices.Repeat([]string{op(t, root(0, 0))}, 16)
	opens(t, "P9.1: an image and 16 operations", logged(t, 0, append([]string{whole}, roots...)...), made(3))
	for what, list := range map[string][]string{
		"an operation alone":                          {count},
		"an operation ahead of an image":              {count, next},
		"an image of another order":                   {other},
		"an image of another order, and an operation": {other, count},
		"an image, and one of another order":          {whole, other},
		"an image, and one of another heap":           {whole, next},
		"an image twice, and an operation":            {whole, whole, count},
		"an image three times":                        {whole, whole, whole},
		"a next image that is too early":              {whole, next, count},
		"a next image that is the last one":           {whole, count, whole},
		"operations that are too many":                append(append([]string{whole}, roots...), roots[0]),
		"an operation that fails":                     {whole, op(t, free(1))},
		"an operation that fails by its form":         {whole, op(t, api.Op{})},
		"an operation that fails for room":            {whole, op(t, alloc(32, 0))},
		"an operation that asks":                      {whole, op(t, top(0))},
		"an operation that reads":                     {whole, count, op(t, read(1, 0))},
		"an operation behind one that fails":          {whole, op(t, free(1)), count},
		"an operation without its last byte":          {whole, count[:len(count)-1]},
		"an operation and a byte":                     {whole, count + "\x00"},
		"an operation of no bytes":                    {whole, count[:1]},
		"no bytes":                                    {whole, ""},
		"no bytes between":                            {whole, "", count},
		"no bytes ahead":                              {"", whole},
		"another text behind":                         {whole, "a"},
		"another text ahead":                          {"a", whole},
		"an image without its last byte":              {whole[:len(whole)-1]},
		"an image and a byte":                         {whole + "\x00"},
		"an image without its first byte":             {whole[1:]},
		"an image in two":                             {whole[:5], whole[5:]},
	} {
		for gone := range 2 {
			spoilt(t, what, logged(t, gone, list...), 3)
		}
	}
}

// TestForgedPieces: the same with images of several pieces.
func TestForgedPieces(t *testing.T) {
	p := wide(t, 3, 0)()
	all := records(t, p.disk)
	if len(all) != 3 {
		t.Fatalf("P9.3: an image of %d records", len(all))
	}
	now := p.now()
	opens(t, "P9.1: an image of three pieces", logged(t, 1, all...), now)
	for n := range 4 {
		opens(t, "P9.1: pieces of the next image", logged(t, 1, append(slices.Clone(all), all[:n]...)...), now)
	}
	lead := op(t, root(0, 1))
	opens(t, "P9.1: an image of three pieces, and an operation", logged(t, 1, append(slices.Clone(all), lead)...), made(8, opsOf(now, root(0, 1))...))
	for what, list := range map[string][]string{
		"a first piece alone":                {all[0]},
		"two pieces":                         {all[0], all[1]},
		"two pieces, and an operation":       {all[0], all[1], lead},
		"an operation between pieces":        {all[0], lead, all[1], all[2]},
		"without the first one":              {all[1], all[2]},
		"without the second one":             {all[0], all[2]},
		"the last one alone":                 {all[2]},
		"the last one first":                 {all[2], all[1], all[0]},
		"the second one first":               {all[1], all[0], all[2]},
		"the first one twice":                {all[0], all[0], all[1], all[2]},
		"the next image's second one":        {all[0], all[1], all[2], all[1]},
		"the next image's first one twice":   {all[0], all[1], all[2], all[0], all[0]},
		"a piece of the image ahead":         {all[0], all[1], all[2], lead, all[0], all[1], all[2]},
		"an operation behind a piece":        {all[0], all[1], all[2], all[0], lead},
		"an operation behind the next image": {all[0], all[1], all[2], all[0], all[1], all[2], lead},
		"a first piece that is shorter":      {all[0][:1023], all[1], all[2]},
		"pieces that are one byte on":        {all[0][:1023], all[1][:1] + all[0][1023:] + all[1][1:1023], all[2][:1] + all[1][1023:] + all[2][1:]},
		"pieces that are shorter":            {all[0][:501], all[0][:1] + all[0][501:], all[1], all[2]},
		"a last piece of no bytes":           {all[0], all[1], all[0][:1] + all[2][1:], all[2][:1]},
	} {
		spoilt(t, what, logged(t, 1, list...), 8)
	}
}

// opsOf are operations that make a heap of whose objects none was let go, and then some more.
func opsOf(h api.Heap, more ...api.Op) []api.Op {
	var list []api.Op
	for _, o := range h.Objects {
		list = append(list, alloc(len(o.Words), len(o.Links)))
		for i, v := range o.Words {
			list = append(list, write(o.Handle, i, v))
		}
	}
	for i, to := range h.Tops {
		list = append(list, root(i, to))
	}
	return append(list, more...)
}

// TestForgedImage: an image has one form alone: numbers with bytes 0 ahead, as some that are left out, are none.
func TestForgedImage(t *testing.T) {
	whole := records(t, newPair(t, 3).disk)[0]
	for at := range len(whole) {
		for _, x := range []string{"\x00", "\x01", "\x02", "\x04", "\x05", "\xff", whole[at : at+1]} {
			anyHeap(t, logged(t, 0, whole[:at]+x+whole[at:]), 3)
			anyHeap(t, logged(t, 0, whole[:at]+x+whole[at+1:]), 3)
		}
		spoilt(t, "a beginning of an image", logged(t, 0, whole[:at]), 3)
	}
	spoilt(t, "an image with a byte 0 in front of a number", logged(t, 0, strings.Replace(whole, "\x01\x03", "\x02\x00\x03", 1)), 3)
	spoilt(t, "an image with bytes 0 in front of a number", logged(t, 0, strings.Replace(whole, "\x01\x03", "\x04\x00\x00\x00\x03", 1)), 3)
	spoilt(t, "an image with a byte for no bytes", logged(t, 0, whole[:len(whole)-1]+"\x01\x00"), 3)
}

// TestForgedGreatest: a log whose numbers can't grow further is no heap's: each number of its first sector is
// made the greatest, under a right sum.
func TestForgedGreatest(t *testing.T) {
	p := newPair(t, 3)
	p.do(alloc(0, 0))
	p.force()
	first := sectors(t, p.disk)[0]
	for at := 0; at+4 <= 60; at += 4 {
		d := laid(t, sectors(t, p.disk))
		forged := first[:at] + "\x7f\xff\xff\xff" + first[at+4:60]
		put(t, d, 0, []string{string(sum.Seal([]byte(forged)))})
		spoilt(t, "a number that is the greatest", d, 3)
	}
	p.opened()
}

// anyHeap looks that Open tells a heap that is right, or that what lies there is no heap's.
func anyHeap(t *testing.T, d *pdisk.Disk, order int) {
	t.Helper()
	p, e := pheap.Open(d, order)
	if e == api.OK && heap.Check(p.Heap()) == api.OK || p == nil && (e == api.ErrPheapSpoilt || e == api.ErrRedoSpoilt) {
		return
	}
	t.Errorf("P9.1: Open: %v, %d", p, e)
}

// TestForgedDrawn: records of a heap with bytes that are drawn changed, and in another order: Open tells a heap
// that is right, or none.
func TestForgedDrawn(t *testing.T) {
	t.Parallel()
	p := lived(t)
	list := records(t, p.disk)
	d := dice(1)
	for range 3000 {
		forged := slices.Clone(list)
		for range 1 + d.below(3) {
			i := d.below(len(forged))
			b := []byte(forged[i])
			b[d.below(len(b))] ^= byte(1 << d.below(8))
			forged[i] = string(b)
			if d.below(8) == 0 {
				j := d.below(len(forged))
				forged[i], forged[j] = forged[j], forged[i]
			}
		}
		anyHeap(t, logged(t, 1, forged...), 4)
	}
}

// TestAnything: nothing panics, whatever comes in, in each state of a heap and its disk: behind a crash without
// an Open too, and where somebody else wrote.
func TestAnything(t *testing.T) {
	t.Parallel()
	states := []step{
		func(*pair) {},
		func(p *pair) { p.heap.Do(root(1, 1)) },
		func(p *pair) { p.heap.Checkpoint() },
		func(p *pair) { p.disk.Stop(0) },
		func(p *pair) { p.disk.Stop(1) },
		func(p *pair) { p.disk.Stop(3) },
		func(p *pair) { p.disk.Crash(nil) },
		func(p *pair) { put(p.t, crashed(p.disk), 0, slices.Repeat([]string{"#"}, 256)) },
		func(p *pair) { put(p.t, crashed(p.disk), 0, make([]string, 256)) },
		func(p *pair) { pheap.Open(p.disk, 4) },
		func(p *pair) { redo.Open(p.disk, 0, 256) },
	}
	for _, row := range rows(2, states...) {
		p := newPair(t, 4)
		p.do(alloc(2, 2))
		for _, s := range row {
			if !p.disk.Down() {
				s(p)
			}
		}
		for i, n := range []int{0, 1, 2, -1, 16, 33, 1 << 31, -1 << 31, math.MaxInt, math.MinInt} {
			for kind := api.OpKind(-1); kind < 11; kind++ {
				p.heap.Do(api.Op{Kind: kind, H: n, I: n, N: n, K: n, V: n, T: n})
				p.heap.Do(api.Op{Kind: kind, H: 1, I: i % 3, N: n, K: 1, V: n, T: 1})
				p.heap.Do(api.Op{Kind: kind, H: 1, I: n, N: 1, K: n, V: n, T: n})
			}
			p.heap.Checkpoint()
			p.heap.Force()
			p.heap.Heap()
			pheap.Open(p.disk, n)
		}
		pheap.Open(p.disk, 4)
		pheap.Open(crashed(p.disk), 4)
	}
}
