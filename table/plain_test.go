package table_test

import (
	"slices"
	"testing"

	"tumulus/api"
	"tumulus/heap"
	"tumulus/image"
	"tumulus/table"
)

// What follows tells by the document's words alone, over heap.Check and heap.Do, what each call has to answer: a
// client's row is looked for in its place of an array.

func plainFind(s api.State, client int) (api.Row, bool) {
	for _, r := range s.Rows {
		if r.Client == client {
			return r, true
		}
	}
	return api.Row{}, false
}

func plainMay(e api.Entry) bool {
	if e.Number < 1 || e.Number > 900000000 || e.View < 0 || e.View > 900000000 {
		return false
	}
	if e.Client == 0 && e.Seq == 0 {
		o := e.Op
		return o.Kind == 0 && o.H == 0 && o.I == 0 && o.N == 0 && o.K == 0 && o.V == 0 && o.T == 0
	}
	return e.Client >= 1 && e.Client <= 4 && e.Seq >= 1 && e.Seq <= 1000000
}

func plainRight(s api.State) bool {
	last := 0
	for _, r := range s.Rows {
		if r.Client <= last || r.Client > 4 || r.Seq < 1 || r.Seq > 1000000 || r.Result.Code < 0 || r.Result.Code > 65535 {
			return false
		}
		last = r.Client
	}
	return heap.Check(s.Heap) == api.OK
}

func plainApply(s api.State, e api.Entry) (api.State, api.Result) {
	if !plainRight(s) || !plainMay(e) {
		return api.State{}, api.Result{Code: 1}
	}
	next := cloneState(s)
	if e.Client == 0 {
		return next, api.Result{}
	}
	var rows [5]api.Row
	for _, r := range s.Rows {
		rows[r.Client] = r
	}
	had := rows[e.Client]
	if had.Seq > e.Seq {
		return next, api.Result{Code: 130}
	}
	if had.Seq == e.Seq {
		return next, had.Result
	}
	h, result := heap.Do(next.Heap, e.Op)
	rows[e.Client] = api.Row{Client: e.Client, Seq: e.Seq, Result: result}
	next = api.State{Heap: h}
	for _, r := range rows {
		if r.Seq > 0 {
			next.Rows = append(next.Rows, r)
		}
	}
	return next, result
}

// apply is what Apply answers: what the plain reading does, of the same arguments the same, what is right of what is
// right. What was handed in stays as it is, all its memory and what lies behind its lists, also by what is done to
// an answer later on; and an answer stays as it is by what is done to the others, and to what was handed in.
func apply(t *testing.T, s api.State, e api.Entry) (api.State, api.Result) {
	t.Helper()
	want, wanted := plainApply(s, e)
	given := roomy(s)
	before := cloneState(whole(given))
	first, result := table.Apply(given, e)
	second, again := table.Apply(given, e)
	if result != wanted || !sameState(first, want) {
		t.Fatalf("P14.2: Apply(%+v, %+v): %+v, %+v, not %+v, %+v", s, e, first, result, want, wanted)
	}
	if again != result || !sameState(second, want) {
		t.Fatalf("R2: Apply(%+v, %+v) again: %+v, %+v", s, e, second, again)
	}
	if plainRight(s) && plainMay(e) && (image.Check(first) != api.OK || !plainRight(first)) {
		t.Fatalf("P14.3: Apply(%+v, %+v): %+v is not right", s, e, first)
	}
	if !spoil(first) {
		t.Fatalf("R2: Apply(%+v, %+v): two lists of the answer share memory", s, e)
	}
	if !sameState(whole(given), before) {
		t.Fatalf("R2: Apply(%+v, %+v) changed what was handed in, or shares its memory: %+v", s, e, given)
	}
	spoil(given)
	if !sameState(second, want) {
		t.Fatalf("R2: Apply(%+v, %+v): two answers share memory, or one with what was handed in: %+v", s, e, second)
	}
	return second, result
}

// stays looks that an entry changes nothing, and what it tells.
func stays(t *testing.T, s api.State, e api.Entry, want api.Result) {
	t.Helper()
	next, result := apply(t, s, e)
	if result != want || !sameState(next, s) {
		t.Fatalf("P14.2: Apply(%+v, %+v): %+v, %+v, not the same and %+v", s, e, next, result, want)
	}
}

// refused looks that there is no answer but ErrArg.
func refused(t *testing.T, name string, s api.State, e api.Entry) {
	t.Helper()
	next, result := apply(t, s, e)
	if result != (api.Result{Code: api.ErrArg}) || !sameState(next, api.State{}) {
		t.Fatalf("P14.2: %s: Apply(%+v, %+v): %+v, %+v", name, s, e, next, result)
	}
}

// roomy is a state as s, whose lists have others behind them in their memory.
func roomy(s api.State) api.State {
	s = cloneState(s)
	for i := range s.Heap.Objects {
		o := &s.Heap.Objects[i]
		o.Words, o.Links = withRoom(o.Words, -71), withRoom(o.Links, -72)
	}
	s.Heap.Objects = withRoom(s.Heap.Objects, api.Object{Handle: -73, Words: []int{-74}})
	s.Heap.Free = withRoom(s.Heap.Free, api.Block{At: -75, Order: -75})
	s.Rows = withRoom(s.Rows, api.Row{Client: -76, Seq: -76})
	return s
}

func withRoom[T any](l []T, mark T) []T {
	return append(slices.Clip(l), mark, mark, mark)[:len(l)]
}

// whole is a state whose lists are all their memory.
func whole(s api.State) api.State {
	s.Rows = s.Rows[:cap(s.Rows)]
	s.Heap.Free = s.Heap.Free[:cap(s.Heap.Free)]
	s.Heap.Objects = slices.Clone(s.Heap.Objects[:cap(s.Heap.Objects)])
	for i := range s.Heap.Objects {
		o := &s.Heap.Objects[i]
		o.Words, o.Links = o.Words[:cap(o.Words)], o.Links[:cap(o.Links)]
	}
	return s
}

// spoil writes over all the memory of a state's lists: into each list of numbers its place among them. It tells
// whether all of it is there in the end, as it is if no two lists share any.
func spoil(s api.State) bool {
	var lists [][]int
	for _, o := range s.Heap.Objects {
		lists = append(lists, o.Words[:cap(o.Words)], o.Links[:cap(o.Links)])
	}
	for i, list := range lists {
		for j := range list {
			list[j] = 1000 + i
		}
	}
	fillWith(s.Heap.Objects, api.Object{Handle: -77, Block: api.Block{At: -77, Order: -77}})
	fillWith(s.Heap.Free, api.Block{At: -78, Order: -78})
	fillWith(s.Rows, api.Row{Client: -79, Seq: -79, Result: api.Result{Code: -79, Value: -79}})
	for i, list := range lists {
		if slices.ContainsFunc(list, func(n int) bool { return n != 1000+i }) {
			return false
		}
	}
	return true
}

func fillWith[T any](l []T, mark T) {
	l = l[:cap(l)]
	for i := range l {
		l[i] = mark
	}
}

// cloneHeap is a heap that shares no memory with h.
func cloneHeap(h api.Heap) api.Heap {
	h.Free = slices.Clone(h.Free)
	objects := h.Objects
	h.Objects = nil
	for _, o := range objects {
		o.Words, o.Links = slices.Clone(o.Words), slices.Clone(o.Links)
		h.Objects = append(h.Objects, o)
	}
	return h
}

func cloneState(s api.State) api.State {
	return api.State{Heap: cloneHeap(s.Heap), Rows: slices.Clone(s.Rows)}
}

// sameHeap tells whether two heaps are alike; a list that is empty may be nil.
func sameHeap(a, b api.Heap) bool {
	return a.Order == b.Order && a.Next == b.Next && a.Tops == b.Tops && slices.Equal(a.Free, b.Free) &&
		slices.EqualFunc(a.Objects, b.Objects, func(a, b api.Object) bool {
			return a.Handle == b.Handle && a.Block == b.Block && slices.Equal(a.Words, b.Words) && slices.Equal(a.Links, b.Links)
		})
}

func sameState(a, b api.State) bool {
	return sameHeap(a.Heap, b.Heap) && slices.Equal(a.Rows, b.Rows)
}

// dice is a row of numbers by a rule.
type dice uint64

func (d *dice) below(n int) int {
	*d = *d*6364136223846793005 + 1442695040888963407
	return int(uint64(*d) >> 33 % uint64(n))
}

// pick is one of a list.
func pick[E any](d *dice, list ...E) E { return list[d.below(len(list))] }
