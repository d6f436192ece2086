package table_test

import (
	"slices"
	"testing"

	"tumulus/api"
	"tumulus/image"
	"tumulus/table"
)

// drawnOp is an operation on a heap, that often does something.
func drawnOp(d *dice, h api.Heap) api.Op {
	handle := func() int {
		if len(h.Objects) > 0 && d.below(8) > 0 {
			return pick(d, h.Objects...).Handle
		}
		return d.below(h.Next+3) - 1
	}
	o := api.Op{Kind: api.OpKind(1 + d.below(8)), H: handle(), I: d.below(4), T: handle(), V: d.below(1000)}
	o.N, o.K = pick(d, 0, 0, 1, 1, 2, 3, 12, 32), pick(d, 0, 0, 1, 2, 3, 16)
	switch d.below(12) {
	case 0:
		o.I, o.N = pick(d, -1, 4, 16, 32), pick(d, -1, 33)
	case 1:
		o.Kind = api.OpKind(pick(d, 0, 9, -1, 100))
	case 2, 3, 4:
		o.Kind = api.OpAlloc
	}
	return o
}

// rightEntry is one that may be: often a client's next one, and else its last one, a late one, or none of a client.
func rightEntry(d *dice, s api.State) api.Entry {
	e := api.Entry{Number: 1 + d.below(900000000), View: d.below(900000001)}
	if d.below(10) == 0 {
		return e
	}
	e.Client, e.Op = 1+d.below(4), drawnOp(d, s.Heap)
	row, _ := plainFind(s, e.Client)
	switch d.below(6) {
	case 0:
		e.Seq = row.Seq
	case 1:
		e.Seq = d.below(row.Seq + 1)
	default:
		e.Seq = row.Seq + 1 + d.below(3)
	}
	e.Seq = max(e.Seq, 1)
	return e
}

// drawnEntry is one that mostly may be.
func drawnEntry(d *dice, s api.State) api.Entry {
	e := rightEntry(d, s)
	if d.below(12) == 0 {
		at := pick(d, &e.Number, &e.View, &e.Client, &e.Seq, &e.Op.T)
		*at = pick(d, -1, 0, 5, 1000001, 900000001, pick(d, edges...))
	}
	return e
}

// TestWalk: long rows of drawn entries, from an empty heap of each order on, answer as a plain reading does.
func TestWalk(t *testing.T) {
	count := map[api.Errno]int{}
	told, none := 0, 0
	for order := 3; order <= 8; order++ {
		d := dice(140 + order)
		s := fresh(t, order)
		for range 3000 {
			e := drawnEntry(&d, s)
			row, _ := plainFind(s, e.Client)
			next, result := apply(t, s, e)
			found, there := table.Find(s, e.Client)
			if want, is := plainFind(s, e.Client); found != want || there != is {
				t.Fatalf("P14.1: Find(%+v, %d): %+v, %v", s.Rows, e.Client, found, there)
			}
			if table.May(e) != plainMay(e) {
				t.Fatalf("P14.1: May(%+v): %v", e, !plainMay(e))
			}
			count[result.Code]++
			switch {
			case result.Code == api.ErrArg:
				continue
			case e.Client == 0:
				none++
			case e.Seq == row.Seq:
				told++
			}
			s = next
		}
		if len(s.Rows) != 4 {
			t.Errorf("P14.3: order %d: rows %+v", order, s.Rows)
		}
	}
	for _, code := range []api.Errno{api.OK, api.ErrArg, api.ErrTableOld, api.ErrHeapSpace, api.ErrHeapHandle, api.ErrHeapIndex, api.ErrHeapLarge, api.ErrHeapForm} {
		if count[code] < 100 {
			t.Errorf("what is drawn is one-sided: Code %d came %d times", code, count[code])
		}
	}
	if told < 100 || none < 100 {
		t.Errorf("what is drawn is one-sided: %d came again, %d had no client", told, none)
	}
}

// numbersOf are the places of all numbers in a state that a rule is about.
func numbersOf(s *api.State) []*int {
	all := []*int{&s.Heap.Order, &s.Heap.Next}
	for i := range s.Heap.Tops {
		all = append(all, &s.Heap.Tops[i])
	}
	for i := range s.Heap.Free {
		all = append(all, &s.Heap.Free[i].At, &s.Heap.Free[i].Order)
	}
	for i := range s.Heap.Objects {
		o := &s.Heap.Objects[i]
		all = append(all, &o.Handle, &o.Block.At, &o.Block.Order)
		for j := range o.Links {
			all = append(all, &o.Links[j])
		}
	}
	for i := range s.Rows {
		all = append(all, &s.Rows[i].Client, &s.Rows[i].Seq, (*int)(&s.Rows[i].Result.Code), &s.Rows[i].Result.Value)
	}
	return all
}

// TestNumbersChanged: of a right state one number is changed: what comes of it is what the plain reading says.
func TestNumbersChanged(t *testing.T) {
	d := dice(31)
	right, wrong := 0, 0
	for range 4000 {
		s := some(pick(&d, subsets()...)...)
		at := pick(&d, numbersOf(&s)...)
		if d.below(3) == 0 {
			*at = pick(&d, edges...)
		} else {
			*at += pick(&d, -8, -4, -2, -1, 1, 2, 4, 8)
		}
		_, result := apply(t, s, pick(&d, entries()...))
		if image.Check(s) == api.OK {
			right++
		} else if wrong++; result != fails(api.ErrArg) {
			t.Fatalf("P14.2: Apply(%+v): %+v", s, result)
		}
	}
	if right < 500 || wrong < 500 {
		t.Errorf("what is drawn is one-sided: %d right, %d wrong", right, wrong)
	}
}

// anyNumber is mostly small, and else any.
func anyNumber(d *dice) int {
	if d.below(6) == 0 {
		return pick(d, edges...)
	}
	return d.below(12) - 2
}

func anyNumbers(d *dice, most int) []int {
	l := make([]int, d.below(most+1))
	for i := range l {
		l[i] = anyNumber(d)
	}
	return l
}

// anyState is one of any numbers and lists.
func anyState(d *dice) api.State {
	s := api.State{Heap: api.Heap{Order: anyNumber(d), Next: anyNumber(d)}}
	for i := range s.Heap.Tops {
		s.Heap.Tops[i] = anyNumber(d)
	}
	for range d.below(4) {
		o := api.Object{Handle: anyNumber(d), Block: api.Block{At: anyNumber(d), Order: anyNumber(d)}}
		o.Words, o.Links = anyNumbers(d, 5), anyNumbers(d, 5)
		s.Heap.Objects = append(s.Heap.Objects, o)
	}
	for range d.below(4) {
		s.Heap.Free = append(s.Heap.Free, api.Block{At: anyNumber(d), Order: anyNumber(d)})
	}
	for range d.below(6) {
		s.Rows = append(s.Rows, api.Row{Client: anyNumber(d), Seq: anyNumber(d), Result: api.Result{Code: api.Errno(anyNumber(d)), Value: anyNumber(d)}})
	}
	return s
}

func anyEntry(d *dice) api.Entry {
	e := api.Entry{Number: anyNumber(d), View: anyNumber(d), Client: anyNumber(d), Seq: anyNumber(d)}
	e.Op = api.Op{Kind: api.OpKind(anyNumber(d)), H: anyNumber(d), I: anyNumber(d), N: anyNumber(d), K: anyNumber(d), V: anyNumber(d), T: anyNumber(d)}
	return e
}

// TestAnything: nothing panics, all ends, and is as the document says, whatever comes in.
func TestAnything(t *testing.T) {
	d := dice(41)
	for range 20000 {
		s, e := anyState(&d), anyEntry(&d)
		apply(t, s, e)
		apply(t, some(pick(&d, subsets()...)...), e)
		client := anyNumber(&d)
		want, is := plainFind(s, client)
		finds(t, s, client, want, is)
		if table.May(e) != plainMay(e) {
			t.Fatalf("P14.1: May(%+v): %v", e, !plainMay(e))
		}
	}
}

// TestLong: lists that are far longer than any that may be.
func TestLong(t *testing.T) {
	long := func(change func(s *api.State)) {
		s := some(1, 2)
		change(&s)
		for _, e := range []api.Entry{bare(1, 0), asks(1, 99, alloc(0, 0)), asks(2, 1, api.Op{}), {}} {
			refused(t, "a long list", s, e)
		}
		want, is := plainFind(s, 77)
		finds(t, s, 77, want, is)
	}
	long(func(s *api.State) { s.Rows = slices.Repeat(s.Rows, 50000) })
	long(func(s *api.State) { s.Rows = append(make([]api.Row, 100000), api.Row{Client: 77, Seq: 5}) })
	long(func(s *api.State) { s.Heap.Objects = make([]api.Object, 100000) })
	long(func(s *api.State) { s.Heap.Free = make([]api.Block, 100000) })
	long(func(s *api.State) { s.Heap.Objects[0].Words = make([]int, 1000000) })
	long(func(s *api.State) { s.Heap.Objects[2].Links = make([]int, 1000000) })
}
