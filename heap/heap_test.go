package heap_test

import (
	"math"
	"slices"
	"testing"

	"tumulus/api"
	"tumulus/heap"
)

// noRegions are no region's orders.
var noRegions = []int{2, 9, -1, 0, 1, 10, 62, 63, 64, 65, -3, -64, math.MaxInt, math.MinInt}

// kinds are the eight, and some that are none.
var kinds = []api.OpKind{1, 2, 3, 4, 5, 6, 7, 8, 0, 9, -1, -8, 10, 255, 257, math.MaxInt, math.MinInt}

// ints are numbers that no rule of the heap is about.
var ints = []int{math.MinInt, -1 << 31, -1, 0, 1, 7, 1 << 31, math.MaxInt}

func alloc(words, links int) api.Op     { return api.Op{Kind: api.OpAlloc, N: words, K: links} }
func drop(handle int) api.Op            { return api.Op{Kind: api.OpFree, H: handle} }
func write(handle, i, value int) api.Op { return api.Op{Kind: api.OpWrite, H: handle, I: i, V: value} }
func link(handle, i, to int) api.Op     { return api.Op{Kind: api.OpLink, H: handle, I: i, T: to} }
func root(i, to int) api.Op             { return api.Op{Kind: api.OpRoot, I: i, T: to} }
func read(handle, i int) api.Op         { return api.Op{Kind: api.OpRead, H: handle, I: i} }
func follow(handle, i int) api.Op       { return api.Op{Kind: api.OpFollow, H: handle, I: i} }
func top(i int) api.Op                  { return api.Op{Kind: api.OpTop, I: i} }

// dice is a row of numbers by a rule.
type dice uint64

func (d *dice) below(n int) int {
	*d = *d*6364136223846793005 + 1442695040888963407
	return int(uint64(*d) >> 33 % uint64(n))
}

// pick is one of a list.
func pick[E any](d *dice, list ...E) E { return list[d.below(len(list))] }

// fresh is a new heap.
func fresh(t *testing.T, order int) api.Heap {
	t.Helper()
	h, e := heap.New(order)
	want := api.Heap{Order: order, Next: 1, Free: []api.Block{{At: 0, Order: order}}}
	if e != api.OK || !same(h, want) {
		t.Fatalf("P5.1: New(%d): %+v, %d", order, h, e)
	}
	return h
}

// some is a heap of order 4 with three objects, and free words between them and behind.
func some() api.Heap {
	return api.Heap{
		Order: 4,
		Next:  6,
		Tops:  [api.Roots]int{1, 0, 4, 4},
		Objects: []api.Object{
			{Handle: 1, Block: api.Block{At: 0, Order: 2}, Words: []int{7, -8}, Links: []int{4}},
			{Handle: 3, Block: api.Block{At: 5, Order: 0}},
			{Handle: 4, Block: api.Block{At: 8, Order: 2}, Words: []int{math.MaxInt}, Links: []int{0, 4}},
		},
		Free: []api.Block{{At: 4, Order: 0}, {At: 6, Order: 1}, {At: 12, Order: 2}},
	}
}

// lists are all lists of numbers in a heap: words and links by turns.
func lists(h api.Heap) [][]int {
	var all [][]int
	for _, o := range h.Objects {
		all = append(all, o.Words, o.Links)
	}
	return all
}

// spoil writes over all the memory of a heap's lists, spare memory too: into each list of numbers its
// place among them. It tells whether all of it is there in the end, as it is if no two lists share any.
func spoil(h api.Heap) bool {
	all := lists(h)
	for i, list := range all {
		whole := list[:cap(list)]
		for j := range whole {
			whole[j] = 1000 + i
		}
	}
	objects, free := h.Objects[:cap(h.Objects)], h.Free[:cap(h.Free)]
	for i := range objects {
		objects[i] = api.Object{Handle: -77, Block: api.Block{At: -77, Order: -77}}
	}
	for i := range free {
		free[i] = api.Block{At: -78, Order: -78}
	}
	for i, list := range all {
		for _, value := range list[:cap(list)] {
			if value != 1000+i {
				return false
			}
		}
	}
	return true
}

// do does an operation on a heap that is right, and looks by the plain heap what comes of it, that it is
// right, that it shares no memory, and that the heap that was handed in stays as it is.
func do(t *testing.T, h api.Heap, o api.Op) (api.Heap, api.Result) {
	t.Helper()
	before := clone(h)
	want, wanted := plainDo(h, o)
	next, result := heap.Do(h, o)
	if result != wanted || !same(next, want) {
		t.Fatalf("P5.2: Do(%+v, %+v): %+v, %+v, not %+v, %+v", before, o, next, result, want, wanted)
	}
	if e := heap.Check(next); e != api.OK {
		t.Fatalf("P5.3: Do(%+v, %+v): %+v is not right: %d", before, o, next, e)
	}
	if result.Code != api.OK && (result.Value != 0 || !same(next, before)) {
		t.Fatalf("P5.3: Do(%+v, %+v) failed: %+v, %+v", before, o, next, result)
	}
	answer := clone(next)
	if !spoil(next) {
		t.Fatalf("R2: Do(%+v, %+v): lists of %+v share their memory", before, o, answer)
	}
	if !same(h, before) {
		t.Fatalf("R2: Do(%+v, %+v): the heap that was handed in became %+v", before, o, h)
	}
	return answer, result
}

// run does operations, one behind the other, that none may fail.
func run(t *testing.T, h api.Heap, all ...api.Op) api.Heap {
	t.Helper()
	for _, o := range all {
		next, result := do(t, h, o)
		if result.Code != api.OK {
			t.Fatalf("P5.2: %+v: %+v", o, result)
		}
		h = next
	}
	return h
}

// fails looks that an operation tells an error.
func fails(t *testing.T, h api.Heap, o api.Op, want api.Errno) {
	t.Helper()
	if _, result := do(t, h, o); result != (api.Result{Code: want}) {
		t.Errorf("P5.2: Do(%+v, %+v): %+v, not %d", h, o, result, want)
	}
}

// tells looks what an operation answers that does not fail.
func tells(t *testing.T, h api.Heap, o api.Op, want int) {
	t.Helper()
	if _, result := do(t, h, o); result != (api.Result{Value: want}) {
		t.Errorf("P5.2: Do(%+v, %+v): %+v, not %d", h, o, result, want)
	}
}

func TestExamples(t *testing.T) {
	h := fresh(t, 3)
	for i, x := range []struct {
		o    api.Op
		want api.Result
	}{
		{alloc(2, 1), api.Result{Value: 1}},
		{alloc(3, 0), api.Result{Value: 2}},
		{alloc(0, 0), api.Result{Code: api.ErrHeapSpace}},
		{write(1, 1, 7), api.Result{}},
		{read(1, 1), api.Result{Value: 7}},
		{read(1, 2), api.Result{Code: api.ErrHeapIndex}},
		{read(3, 0), api.Result{Code: api.ErrHeapHandle}},
		{link(1, 0, 2), api.Result{}},
		{root(0, 2), api.Result{}},
		{drop(2), api.Result{}},
		{follow(1, 0), api.Result{}},
		{top(0), api.Result{}},
		{alloc(33, 0), api.Result{Code: api.ErrHeapLarge}},
		{alloc(3, 0), api.Result{Value: 3}},
	} {
		next, result := do(t, h, x.o)
		if result != x.want {
			t.Errorf("P5.2: example %d, %+v: %+v, not %+v", i, x.o, result, x.want)
		}
		h = next
	}
	want := api.Heap{Order: 3, Next: 4, Objects: []api.Object{
		{Handle: 1, Block: api.Block{At: 0, Order: 2}, Words: []int{0, 7}, Links: []int{0}},
		{Handle: 3, Block: api.Block{At: 4, Order: 2}, Words: []int{0, 0, 0}},
	}}
	if !same(h, want) {
		t.Errorf("P5.2: the examples' heap is %+v", h)
	}
}

func TestNew(t *testing.T) {
	for order := api.MinOrder; order <= api.MaxOrder; order++ {
		h := fresh(t, order)
		if e := heap.Check(h); e != api.OK {
			t.Errorf("P5.1: Check(New(%d)): %d", order, e)
		}
		again := fresh(t, order)
		spoil(h)
		if e := heap.Check(again); e != api.OK || e != heap.Check(fresh(t, order)) {
			t.Errorf("R2: two answers of New(%d) share their memory", order)
		}
	}
	for _, order := range noRegions {
		if h, e := heap.New(order); e != api.ErrArg || !same(h, api.Heap{}) {
			t.Errorf("P5.1: New(%d): %+v, %d", order, h, e)
		}
	}
}

func TestNeed(t *testing.T) {
	for _, x := range []struct{ words, links, want int }{
		{0, 0, 0},
		{1, 0, 1}, {0, 1, 1},
		{2, 0, 2}, {1, 1, 2}, {0, 2, 2}, {3, 0, 2}, {2, 1, 2}, {0, 3, 2},
		{4, 0, 3}, {0, 4, 3}, {2, 2, 3}, {7, 0, 3}, {0, 7, 3}, {3, 4, 3},
		{8, 0, 4}, {0, 8, 4}, {4, 4, 4}, {15, 0, 4}, {0, 15, 4}, {14, 1, 4},
		{16, 0, 5}, {0, 16, 5}, {8, 8, 5}, {31, 0, 5}, {15, 16, 5},
		{32, 0, 6}, {31, 1, 6}, {16, 16, 6}, {32, 16, 6}, {31, 16, 6}, {32, 15, 6},
		{33, 0, -1}, {0, 17, -1}, {-1, 0, -1}, {0, -1, -1}, {33, 17, -1}, {-1, -1, -1}, {32, 17, -1}, {33, 16, -1},
		{-1, 3, -1}, {3, -1, -1}, {34, 0, -1}, {0, 18, -1}, {33, -1, -1}, {-1, 17, -1},
		{math.MaxInt, 0, -1}, {0, math.MaxInt, -1}, {math.MinInt, 0, -1}, {0, math.MinInt, -1},
		{math.MaxInt, math.MaxInt, -1}, {math.MinInt, math.MinInt, -1}, {math.MaxInt, math.MinInt, -1},
	} {
		if need := heap.Need(x.words, x.links); need != x.want {
			t.Errorf("P5.1: Need(%d, %d): %d, not %d", x.words, x.links, need, x.want)
		}
	}
	for words := -3; words <= 40; words++ {
		for links := -3; links <= 24; links++ {
			want := -1
			if words >= 0 && words <= 32 && links >= 0 && links <= 16 {
				want = plainNeed(words + links)
			}
			if need := heap.Need(words, links); need != want {
				t.Errorf("P5.1: Need(%d, %d): %d, not %d", words, links, need, want)
			}
		}
	}
}

// TestUnknownKind: what is none of the eight is ErrHeapForm, whatever else it has.
func TestUnknownKind(t *testing.T) {
	for _, h := range []api.Heap{fresh(t, 3), some()} {
		for _, kind := range kinds[8:] {
			for _, o := range []api.Op{{}, {H: 1}, {H: 9, I: 9, N: 99, K: 99, V: 9, T: 9}, {N: -1, K: -1}} {
				o.Kind = kind
				fails(t, h, o, api.ErrHeapForm)
			}
		}
	}
}

func TestAlloc(t *testing.T) {
	h := fresh(t, 8)
	h = run(t, h, alloc(32, 16), alloc(0, 0), alloc(32, 0), alloc(0, 16), alloc(32, 16))
	for i, block := range []api.Block{{At: 0, Order: 6}, {At: 64, Order: 0}, {At: 128, Order: 6}, {At: 96, Order: 5}, {At: 192, Order: 6}} {
		o := h.Objects[i]
		if o.Handle != i+1 || o.Block != block || slices.ContainsFunc(append(o.Words, o.Links...), func(n int) bool { return n != 0 }) {
			t.Errorf("P5.2: object %d is %+v", i, o)
		}
	}
	fails(t, h, alloc(32, 0), api.ErrHeapSpace)
	fails(t, h, alloc(16, 16), api.ErrHeapSpace)
	tells(t, h, alloc(15, 0), 6)
	for _, full := range []api.Heap{h, fresh(t, 8), fill(t, 3, 0, 0)} {
		for _, o := range []api.Op{alloc(33, 0), alloc(0, 17), alloc(-1, 0), alloc(0, -1), alloc(33, 17), alloc(-1, 99), alloc(99, -1),
			alloc(math.MaxInt, 0), alloc(0, math.MaxInt), alloc(math.MinInt, 0), alloc(0, math.MinInt), alloc(math.MaxInt, math.MaxInt)} {
			fails(t, full, o, api.ErrHeapLarge)
		}
	}
	// The greatest object has more words than the least regions.
	for order := 3; order <= 5; order++ {
		fails(t, fresh(t, order), alloc(32, 16), api.ErrHeapSpace)
	}
	tells(t, fresh(t, 6), alloc(32, 16), 1)
	fails(t, fresh(t, 3), alloc(8, 0), api.ErrHeapSpace)
	tells(t, fresh(t, 3), alloc(7, 0), 1)
}

// fill takes objects of so many words and links till there is no room.
func fill(t *testing.T, order, words, links int) api.Heap {
	t.Helper()
	h := fresh(t, order)
	for count := 1; ; count++ {
		next, result := do(t, h, alloc(words, links))
		if result.Code == api.ErrHeapSpace {
			return h
		}
		if result != (api.Result{Value: count}) {
			t.Fatalf("P5.2: object %d: %+v", count, result)
		}
		h = next
	}
}

// TestFull: till there is no room objects are taken, and of one that is gone the words are free.
func TestFull(t *testing.T) {
	for _, x := range []struct{ order, words, links int }{{3, 0, 0}, {3, 1, 0}, {3, 3, 4}, {4, 1, 2}, {6, 32, 16}, {7, 3, 0}, {8, 0, 1}, {8, 32, 16}} {
		h := fill(t, x.order, x.words, x.links)
		count := 1 << (x.order - plainNeed(x.words+x.links))
		if len(h.Objects) != count || len(h.Free) != 0 || h.Next != count+1 {
			t.Fatalf("P5.3: %+v: %d objects, free %v, next %d", x, len(h.Objects), h.Free, h.Next)
		}
		fails(t, h, alloc(0, 0), api.ErrHeapSpace)
		for _, handle := range []int{1, count/2 + 1, count} {
			block := h.Objects[handle-1].Block
			less := run(t, h, drop(handle))
			if !slices.Equal(less.Free, []api.Block{block}) {
				t.Errorf("P5.3: %+v without %d: free %v", x, handle, less.Free)
			}
			again := run(t, less, alloc(x.words, x.links))
			last := again.Objects[len(again.Objects)-1]
			if last.Handle != count+1 || last.Block != block || again.Next != count+2 {
				t.Errorf("P5.3: %+v: %d came in the place of %d: %+v", x, last.Handle, handle, last)
			}
			fails(t, again, alloc(0, 0), api.ErrHeapSpace)
			fails(t, again, read(handle, 0), api.ErrHeapHandle)
			if handle != count {
				fails(t, again, drop(handle), api.ErrHeapHandle)
			}
		}
	}
}

// TestLastHandle: a million handles and no more come of a heap.
func TestLastHandle(t *testing.T) {
	h := some()
	h.Next = 1000000
	h, result := do(t, h, alloc(1, 1))
	if result != (api.Result{Value: 1000000}) || h.Next != 1000001 {
		t.Fatalf("P5.2: the last handle: %+v, next %d", result, h.Next)
	}
	fails(t, h, alloc(0, 0), api.ErrLimit)
	fails(t, h, alloc(32, 16), api.ErrLimit)
	fails(t, h, alloc(33, 0), api.ErrHeapLarge)
	fails(t, h, alloc(0, -1), api.ErrHeapLarge)
	h = run(t, h, write(1000000, 0, 5), link(1000000, 0, 1000000), root(3, 1000000))
	tells(t, h, read(1000000, 0), 5)
	tells(t, h, top(3), 1000000)
	h = run(t, h, drop(1000000))
	tells(t, h, top(3), 0)
	fails(t, h, alloc(0, 0), api.ErrLimit)
	fails(t, h, drop(1000000), api.ErrHeapHandle)
	fails(t, h, drop(1000001), api.ErrHeapHandle)
	full := fill(t, 3, 0, 0)
	full.Next = 1000001
	fails(t, full, alloc(0, 0), api.ErrLimit)
	empty := fresh(t, 3)
	empty.Next = 1000001
	fails(t, empty, alloc(0, 0), api.ErrLimit)
	empty.Next = 1000000
	tells(t, empty, alloc(0, 0), 1000000)
}

func TestFree(t *testing.T) {
	h := run(t, fresh(t, 5), alloc(1, 3), alloc(0, 2), alloc(2, 2), alloc(1, 0),
		link(1, 0, 1), link(1, 1, 2), link(1, 2, 3), link(2, 0, 1), link(2, 1, 1), link(3, 0, 3), link(3, 1, 1),
		root(0, 1), root(1, 2), root(2, 1), root(3, 3), write(1, 0, 1), write(3, 0, 1), write(3, 1, 3), write(4, 0, 1))
	gone := run(t, h, drop(1))
	for _, x := range []struct {
		o    api.Op
		want int
	}{
		{follow(2, 0), 0}, {follow(2, 1), 0}, {follow(3, 0), 3}, {follow(3, 1), 0},
		{top(0), 0}, {top(1), 2}, {top(2), 0}, {top(3), 3},
		{read(3, 0), 1}, {read(3, 1), 3}, {read(4, 0), 1},
	} {
		tells(t, gone, x.o, x.want)
	}
	for _, o := range []api.Op{drop(1), read(1, 0), write(1, 0, 1), follow(1, 0), link(1, 0, 0), link(2, 0, 1), root(0, 1)} {
		fails(t, gone, o, api.ErrHeapHandle)
	}
	tells(t, gone, alloc(1, 3), 5)
	none := run(t, gone, drop(3), drop(2), drop(4))
	if len(none.Objects) != 0 || none.Next != 5 || none.Tops != [api.Roots]int{} || !slices.Equal(none.Free, []api.Block{{Order: 5}}) {
		t.Errorf("P5.3: all are gone: %+v", none)
	}
	for _, handle := range []int{0, -1, 2, 5, 6, 7, math.MaxInt, math.MinInt} {
		fails(t, some(), drop(handle), api.ErrHeapHandle)
	}
}

// TestWords: the errors of OpWrite and OpRead, in their order, and that one place alone is written.
func TestWords(t *testing.T) {
	h := some()
	for _, handle := range []int{0, -1, 2, 5, 6, math.MaxInt, math.MinInt} {
		for _, i := range []int{0, -1, 1, 2, math.MaxInt} {
			fails(t, h, write(handle, i, 1), api.ErrHeapHandle)
			fails(t, h, read(handle, i), api.ErrHeapHandle)
		}
	}
	for _, x := range []struct{ handle, i int }{{1, 2}, {1, -1}, {1, math.MaxInt}, {1, math.MinInt}, {3, 0}, {3, -1}, {4, 1}, {4, 2}} {
		fails(t, h, write(x.handle, x.i, 1), api.ErrHeapIndex)
		fails(t, h, read(x.handle, x.i), api.ErrHeapIndex)
	}
	for _, value := range ints {
		next := run(t, h, write(1, 1, value))
		tells(t, next, read(1, 1), value)
		tells(t, next, read(1, 0), 7)
		tells(t, next, read(4, 0), math.MaxInt)
		tells(t, next, follow(1, 0), 4)
	}
	greatest := run(t, fresh(t, 6), alloc(32, 16), write(1, 31, 9), link(1, 15, 1))
	tells(t, greatest, read(1, 31), 9)
	tells(t, greatest, follow(1, 15), 1)
	fails(t, greatest, read(1, 32), api.ErrHeapIndex)
	fails(t, greatest, follow(1, 16), api.ErrHeapIndex)
}

// TestLinks: the errors of OpLink, OpFollow, OpRoot and OpTop, in their order.
func TestLinks(t *testing.T) {
	h := some()
	strangers := []int{-1, 2, 5, 6, 7, math.MaxInt, math.MinInt}
	for _, handle := range append([]int{0}, strangers...) {
		for _, i := range []int{0, -1, 1, 9} {
			for _, to := range []int{0, 1, 2} {
				fails(t, h, link(handle, i, to), api.ErrHeapHandle)
			}
			fails(t, h, follow(handle, i), api.ErrHeapHandle)
		}
	}
	for _, x := range []struct{ handle, i int }{{1, 1}, {1, -1}, {1, math.MaxInt}, {1, math.MinInt}, {3, 0}, {4, 2}, {4, -1}} {
		for _, to := range []int{0, 1, 2} {
			fails(t, h, link(x.handle, x.i, to), api.ErrHeapIndex)
		}
		fails(t, h, follow(x.handle, x.i), api.ErrHeapIndex)
	}
	for _, i := range []int{-1, 4, 5, math.MaxInt, math.MinInt} {
		for _, to := range []int{0, 1, 2} {
			fails(t, h, root(i, to), api.ErrHeapIndex)
		}
		fails(t, h, top(i), api.ErrHeapIndex)
	}
	for _, to := range strangers {
		fails(t, h, link(1, 0, to), api.ErrHeapHandle)
		for i := range api.Roots {
			fails(t, h, root(i, to), api.ErrHeapHandle)
		}
	}
	for _, to := range []int{0, 1, 3, 4} {
		next := run(t, h, link(4, 0, to))
		tells(t, next, follow(4, 0), to)
		tells(t, next, follow(4, 1), 4)
		tells(t, next, follow(1, 0), 4)
		for i := range api.Roots {
			next = run(t, next, root(i, to))
			tells(t, next, top(i), to)
		}
	}
}

// few is numbers around the places and the handles of the heap of some().
var few = []int{-1, 0, 1, 2, 3, 4, 5, 6}

// TestEach: each operation on one heap, with all small numbers.
func TestEach(t *testing.T) {
	for _, h := range []api.Heap{some(), fresh(t, 3), fill(t, 3, 0, 1)} {
		for _, kind := range []api.OpKind{api.OpFree, api.OpWrite, api.OpLink, api.OpRoot, api.OpRead, api.OpFollow, api.OpTop} {
			for _, handle := range few {
				for _, i := range few {
					for _, to := range few {
						do(t, h, api.Op{Kind: kind, H: handle, I: i, T: to, V: to})
					}
				}
			}
		}
		for words := -1; words <= 34; words++ {
			for links := -1; links <= 18; links++ {
				do(t, h, alloc(words, links))
			}
		}
	}
}

// TestOtherFields: what a Kind does not name plays no part.
func TestOtherFields(t *testing.T) {
	h := some()
	for _, junk := range []int{-1, 0, 1, 2, 3, 4, 33, math.MaxInt, math.MinInt} {
		all := api.Op{H: junk, I: junk, N: junk, K: junk, V: junk, T: junk}
		for _, x := range []struct {
			o, full api.Op
		}{
			{alloc(1, 2), all}, {drop(4), all}, {write(1, 1, 5), all}, {link(4, 0, 3), all},
			{root(1, 3), all}, {read(1, 1), all}, {follow(4, 1), all}, {top(2), all},
		} {
			x.full.Kind = x.o.Kind
			name(&x.full, x.o)
			want, wanted := heap.Do(h, x.o)
			got, result := heap.Do(h, x.full)
			if result != wanted || wanted.Code != api.OK || !same(got, want) {
				t.Errorf("P5.2: Do(%+v): %+v, %+v; Do(%+v): %+v, %+v", x.o, want, wanted, x.full, got, result)
			}
		}
	}
}

// name sets what the kind of an operation names.
func name(o *api.Op, from api.Op) {
	switch o.Kind {
	case api.OpAlloc:
		o.N, o.K = from.N, from.K
	case api.OpFree:
		o.H = from.H
	case api.OpWrite:
		o.H, o.I, o.V = from.H, from.I, from.V
	case api.OpLink:
		o.H, o.I, o.T = from.H, from.I, from.T
	case api.OpRoot:
		o.I, o.T = from.I, from.T
	case api.OpRead, api.OpFollow:
		o.H, o.I = from.H, from.I
	case api.OpTop:
		o.I = from.I
	}
}

// anyOp is an operation on a heap, that often does something.
func anyOp(d *dice, h api.Heap) api.Op {
	handle := func() int {
		if len(h.Objects) > 0 && d.below(8) > 0 {
			return pick(d, h.Objects...).Handle
		}
		return d.below(h.Next+3) - 1
	}
	o := api.Op{Kind: pick(d, kinds[:8]...), H: handle(), I: d.below(5), T: handle(), V: pick(d, ints...)}
	o.N, o.K = pick(d, 0, 0, 1, 1, 2, 3, 5, 12, 32), pick(d, 0, 0, 1, 2, 3, 16)
	if d.below(12) == 0 {
		o.I = pick(d, -1, 15, 16, 31, 32)
		o.N = pick(d, -1, 33)
	}
	if d.below(3) == 0 {
		o.Kind = api.OpAlloc
	}
	return o
}

// TestWalk: long rows of operations, held against the plain heap at each step; what was written and linked
// is kept beside, and read in between.
func TestWalk(t *testing.T) {
	for order := api.MinOrder; order <= api.MaxOrder; order++ {
		d := dice(order)
		h := fresh(t, order)
		greatest := 0
		for range 3000 {
			o := anyOp(&d, h)
			next, result := do(t, h, o)
			if o.Kind == api.OpAlloc && result.Code == api.OK {
				if result.Value <= greatest {
					t.Fatalf("P5.3: handle %d came behind %d", result.Value, greatest)
				}
				greatest = result.Value
			}
			h = next
		}
		if greatest < 100 {
			t.Errorf("order %d: the walk made %d objects", order, greatest)
		}
	}
}
