package bag_test

import (
	"slices"
	"strings"
	"testing"
	"unsafe"

	"tumulus/api"
)

// spoil writes over a message, and all of its list, the spare memory too.
func spoil(m *api.Message) {
	whole := m.Entries[:cap(m.Entries)]
	for i := range whole {
		whole[i] = api.Entry{Number: -77, View: whole[i].View + 1, Op: api.Op{Kind: -77, T: -77}}
	}
	*m = api.Message{Kind: -77, Number: -77, Entries: whole, Data: "spoilt", Ok: !m.Ok}
}

// spoilAll spoils each message of a list, and what lies behind them in its memory.
func spoilAll(l []api.Message) {
	whole := l[:cap(l)]
	for i := range whole {
		spoil(&whole[i])
	}
}

// share tells whether two texts lie in one memory, were it a byte.
func share(a, b string) bool {
	if a == "" || b == "" {
		return false
	}
	at, from := uintptr(unsafe.Pointer(unsafe.StringData(a))), uintptr(unsafe.Pointer(unsafe.StringData(b)))
	return at < from+uintptr(len(b)) && from < at+uintptr(len(a))
}

// roomy is a message with entries that have more behind them, in the same memory.
func roomy(n, entries int) (whole []api.Entry, m api.Message) {
	whole = fullWith(n, entries+4).Entries
	m = full(n)
	m.Entries = whole[:entries]
	return whole, m
}

// TestPutChangesNothing: a Put leaves the list, its messages' lists and what lies behind all of them as they
// were, whatever is done on the bag later.
func TestPutChangesNothing(t *testing.T) {
	for _, room := range []int{1, 2, 3, 200} {
		var wholes [][]api.Entry
		var l []api.Message
		for n := range 6 {
			whole, m := roomy(n+1, n)
			if n%4 == 3 {
				m.Kind = 0
			}
			wholes, l = append(wholes, whole), append(l, m)
		}
		memory := copies(l)
		var entries [][]api.Entry
		for _, whole := range wholes {
			entries = append(entries, slices.Clone(whole))
		}
		p := newPair(t, room)
		p.put(l[:4]...)
		p.put(l[:1]...)
		p.double(0)
		spoilAll(p.bag.All())
		taken, _ := p.bag.Take(0)
		spoil(&taken)
		p.bag.Put(l[1:])
		for p.bag.Len() > 0 {
			taken, _ = p.bag.Take(p.bag.Len() - 1)
			spoil(&taken)
		}
		if !slices.EqualFunc(l, memory, reflectEqual) {
			t.Errorf("R2: Put changed its list: %+v", l)
		}
		for i, whole := range wholes {
			if !slices.Equal(whole, entries[i]) {
				t.Errorf("R2: Put changed a message's entries, or what lies behind them: %+v", whole)
			}
		}
	}
}

// TestPutKeepsNothing: what is written over in a list that was put, or in a list within it, changes nothing.
func TestPutKeepsNothing(t *testing.T) {
	for _, room := range []int{1, 2, 3, 200} {
		for entries := range 4 {
			p := newPair(t, room)
			for n := range 5 {
				var l []api.Message
				for i := range n {
					_, m := roomy(10*n+i, entries)
					l = append(l, m)
				}
				p.put(l...)
				spoilAll(l)
				p.same()
				p.double(0)
				p.take(1)
			}
		}
	}
}

// TestPutOfSharedLists: messages whose lists lie in one memory come out with lists of their own.
func TestPutOfSharedLists(t *testing.T) {
	whole, m := roomy(1, 3)
	other, third := m, m
	other.Entries = whole[1:5]
	third.Data = m.Data[2:]
	p := newPair(t, 4)
	p.put(m, other, third, m)
	for i := range 4 {
		all := p.bag.All()
		spoil(&all[i])
		for k, x := range all {
			if k != i && !alike(x, p.plain.list[k]) {
				t.Errorf("R2: in one answer of All, messages %d and %d share their memory", i, k)
			}
		}
		p.same()
	}
	for range 4 {
		taken := p.take(0)
		spoil(&taken)
		p.same()
	}
	if !slices.Equal(whole, fullWith(1, 7).Entries) {
		t.Errorf("R2: what was put was changed: %+v", whole)
	}
}

// TestAllApart: what All gave shares no memory with the bag, nor with what it gave before, or gives then.
func TestAllApart(t *testing.T) {
	p := newPair(t, 4)
	for n := range 30 {
		first, second := p.bag.All(), p.bag.All()
		spoilAll(first)
		if !slices.EqualFunc(second, p.plain.list, alike) {
			t.Fatalf("R2: two answers of All share their memory: %+v", second)
		}
		p.same()
		spoilAll(second)
		p.same()
		switch n % 4 {
		case 0, 1:
			p.put(fullWith(n+1, n%3), full(n+2))
		case 2:
			p.double(n % 3)
		default:
			p.take(n % 3)
		}
	}
}

// TestTakeApart: what is taken shares no memory with what is left, nor with what All gave.
func TestTakeApart(t *testing.T) {
	for i := range 4 {
		p := newPair(t, 5)
		p.put(fulls(1, 4)...)
		all := p.bag.All()
		m := p.take(i)
		spoil(&m)
		p.same()
		if !slices.EqualFunc(all, fulls(1, 4), alike) {
			t.Fatalf("R2: what All gave was changed by what was taken: %+v", all)
		}
		again := p.bag.All()
		two := p.take(0)
		kept := copied(two)
		spoilAll(all)
		spoilAll(again)
		if !alike(two, kept) {
			t.Fatalf("R2: what was taken was changed by what All gave: %+v", two)
		}
		p.put(full(9))
		spoil(&two)
		p.same()
	}
}

// TestDoubledApart: the two of a message that was doubled share no memory, nor do three.
func TestDoubledApart(t *testing.T) {
	for _, room := range []int{2, 3, 6} {
		for i := range 2 {
			p := newPair(t, room)
			p.put(full(1), full(2))
			p.double(i)
			p.double(p.bag.Len() - 1)
			for k := range p.bag.Len() {
				all := p.bag.All()
				spoil(&all[k])
				for at, x := range all {
					if at != k && !alike(x, p.plain.list[at]) {
						t.Fatalf("R2: %d and %d of All share their memory", k, at)
					}
				}
			}
			for p.bag.Len() > 0 {
				m := p.take(p.bag.Len() - 1)
				spoil(&m)
				p.same()
			}
		}
	}
}

// TestWhatCameOutStays: what came out stays as it is, whatever is done on the bag later.
func TestWhatCameOutStays(t *testing.T) {
	d := dice(7)
	p := newPair(t, 5)
	var given, kept []api.Message
	for range 300 {
		step(&d, p)
		out := p.bag.All()
		if d.below(3) == 0 {
			m, _ := p.bag.Take(0)
			p.plain.take(0)
			out = append(out, m)
		}
		given, kept = append(given, out...), append(kept, copies(out)...)
	}
	if !slices.EqualFunc(given, kept, reflectEqual) {
		t.Error("R2: what came out was changed later")
	}
}

// TestEmptyLists: a list without elements brings none of the memory behind it along.
func TestEmptyLists(t *testing.T) {
	for _, entries := range [][]api.Entry{full(1).Entries[:0], full(1).Entries[1:1], make([]api.Entry, 0, 4)} {
		whole := entries[:cap(entries)]
		before := slices.Clone(whole)
		p := newPair(t, 3)
		p.put(api.Message{Kind: 1, Entries: entries})
		p.double(0)
		all := p.bag.All()
		spoilAll(all)
		for range 2 {
			m := p.take(0)
			spoil(&m)
			m.Entries = append(m.Entries, api.Entry{Number: -5})
		}
		if !slices.Equal(whole, before) {
			t.Errorf("R2: what lies behind a list without elements was changed: %+v", whole)
		}
	}
}

// TestTextsApart: no Data that comes out is a part of the memory of what was put, or of what came out else.
func TestTextsApart(t *testing.T) {
	for _, size := range []int{1, 2, 80, 5000} {
		p := newPair(t, 3)
		data := strings.Repeat("a", size-1) + strings.Clone("b")
		p.put(api.Message{Kind: 1, Data: data})
		p.double(0)
		texts := []string{data}
		for range 2 {
			for _, m := range p.bag.All() {
				texts = append(texts, m.Data)
			}
		}
		texts = append(texts, p.take(1).Data, p.take(0).Data)
		for i, a := range texts {
			for _, b := range texts[i+1:] {
				if share(a, b) {
					t.Errorf("R2: two texts of %d bytes share their memory", size)
				}
			}
		}
	}
}

// TestTextsAreNotKept: a Data that was a part of a memory that is written over stays as it was put.
func TestTextsAreNotKept(t *testing.T) {
	p := newPair(t, 2)
	b := []byte("data")
	// Strings don't change: this one does, so that it is seen whether it is kept.
	p.put(api.Message{Kind: 1, Data: unsafe.String(&b[0], len(b))})
	clear(b)
	p.same()
	p.double(0)
	if m := p.take(0); m.Data != "data" {
		t.Errorf("R2: a text was kept: %q", m.Data)
	}
}

// TestAnswersHangOnTheBagAlone: a bag that has the same behind it answers the same as a new one that was handed
// the same, but for what is put.
func TestAnswersHangOnTheBagAlone(t *testing.T) {
	d := dice(9)
	for range 50 {
		old := newPair(t, 4)
		for range d.below(20) {
			step(&d, old)
		}
		young := newPair(t, 4)
		young.put(old.bag.All()...)
		for range 30 {
			calls := d
			step(&calls, old)
			step(&d, young)
			if !slices.EqualFunc(old.bag.All(), young.bag.All(), alike) {
				t.Fatalf("R2: two bags that had the same differ: %+v, %+v", old.bag.All(), young.bag.All())
			}
		}
	}
}
