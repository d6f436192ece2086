package stage_test

import (
	"slices"
	"strings"
	"testing"
	"unsafe"

	"tumulus/api"
	"tumulus/chunk"
)

// share tells whether two texts lie in one memory, were it a byte.
func share(a, b string) bool {
	if a == "" || b == "" {
		return false
	}
	at, from := uintptr(unsafe.Pointer(unsafe.StringData(a))), uintptr(unsafe.Pointer(unsafe.StringData(b)))
	return at < from+uintptr(len(b)) && from < at+uintptr(len(a))
}

// spoil changes all of a list, its spare memory too.
func spoil(list []int) {
	for i := range list[:cap(list)] {
		list[:cap(list)][i] ^= 0x5a5a
	}
}

// spoilTwo spoils what two calls of each that gives lists gave, one behind the other.
func (p *pair) spoilTwo() {
	p.t.Helper()
	one, two := see(p.stage), see(p.stage)
	spoil(one.m.Sums)
	spoil(one.have)
	if !alike(two, p.now.seen()) {
		p.t.Fatalf("R2: lists that came out share their memory: %v", two)
	}
	p.same()
	spoil(two.m.Sums)
	spoil(two.have)
	p.same()
}

// TestListsApart: what Staged and Have gave shares no memory with the stage, nor with what they give again.
func TestListsApart(t *testing.T) {
	p := newPair(t)
	for _, s := range []step{
		func(*pair) {},
		func(p *pair) { p.begin(p.text(250)) },
		func(p *pair) { p.putOne(2) },
		func(p *pair) { p.putOne(0) },
		func(p *pair) { p.opened() },
		func(p *pair) { p.again(all()) },
		func(p *pair) { p.putAll() },
		func(p *pair) { p.install() },
		func(p *pair) { p.begin(p.text(5000)) },
		func(p *pair) { p.putAll() },
		func(p *pair) { p.begin(p.text(81)) },
	} {
		s(p)
		p.spoilTwo()
		p.spoilTwo()
	}
	p.again(nil)
	p.spoilTwo()
	goesOn(p)
}

// TestListsStay: what came out stays as it is, whatever is done later.
func TestListsStay(t *testing.T) {
	p := newPair(t)
	var given, copies []seen
	for i := range 60 {
		p.begin(p.text(20 * i))
		for at := range p.now.m.Sums {
			if at%2 == i%2 {
				p.putOne(at)
			}
		}
		v := see(p.stage)
		w := v
		w.m, w.have = copied(v.m), slices.Clone(v.have)
		given, copies = append(given, v), append(copies, w)
		if i%3 == 0 {
			p.putAll()
			p.install()
		}
	}
	for i := range given {
		if !alike(given[i], copies[i]) {
			t.Fatalf("R2: what came out was changed later: %v, not %v", given[i], copies[i])
		}
	}
}

// TestSumsAreNotKept: Sums that are written over behind a Begin change nothing, and stay as they were handed in,
// with what lies behind them.
func TestSumsAreNotKept(t *testing.T) {
	p := newPair(t)
	for _, size := range []int{1, 81, 400, 5000} {
		data := p.text(size)
		m := plainOf(data)
		for range 2 {
			whole := append(slices.Clone(m.Sums), -7, 3)
			before := slices.Clone(whole)
			handed := chunk.Manifest{Size: size, Sums: whole[:len(m.Sums)]}
			tells(t, "P11.2: Begin", p.beginOf(handed, data), api.OK)
			p.putOne(0)
			p.stage.Begin(chunk.Manifest{Size: size, Sums: whole})
			p.force()
			if !slices.Equal(whole, before) {
				t.Fatal("R2: Begin changed what it was handed")
			}
			spoil(whole)
			p.same()
			p.spoilTwo()
			p.putAll()
			p.same()
		}
		tells(t, "P11.3: Install", p.install(), api.OK)
		p.again(nil)
	}
}

// TestTextsAreNew: the current text is no part of the pieces' memory, nor of what Current gave before.
func TestTextsAreNew(t *testing.T) {
	p := newPair(t)
	for _, size := range []int{1, 80, 81, 5000} {
		data := strings.Clone(p.text(size))
		p.renew(data)
		for range 2 {
			one, _ := p.stage.Current()
			two, _ := p.stage.Current()
			if share(one, data) || share(one, two) {
				t.Errorf("R2: the current text of %d bytes shares its memory", size)
			}
			p.opened()
		}
	}
}

// TestPiecesAreNotKept: a piece that was a part of a memory that is written over stays as it was put.
func TestPiecesAreNotKept(t *testing.T) {
	p := newPair(t)
	data := p.text(200)
	p.begin(data)
	b := []byte(data)
	for i, piece := range plainCut(data) {
		part := b[80*i : 80*i+len(piece)]
		// Strings don't change: this one does, so that it is seen whether it is kept.
		tells(t, "P11.2: Put", p.put(i, unsafe.String(&part[0], len(part))), api.OK)
		p.now.pieces[i] = piece
	}
	clear(b)
	p.install()
	if x, _ := p.stage.Current(); x != data {
		t.Error("R2: a piece was kept")
	}
}
