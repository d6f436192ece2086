package image_test

import (
	"bytes"
	"math"
	"slices"
	"testing"

	"tumulus/api"
	"tumulus/heap"
	"tumulus/image"
)

// dice is a row of numbers by a rule.
type dice uint64

func (d *dice) below(n int) int {
	*d = *d*6364136223846793005 + 1442695040888963407
	return int(uint64(*d) >> 33 % uint64(n))
}

// pick is one of a list.
func pick[E any](d *dice, list ...E) E { return list[d.below(len(list))] }

func fresh(t *testing.T, order int) api.Heap {
	t.Helper()
	h, e := heap.New(order)
	if e != api.OK {
		t.Fatalf("heap.New(%d): %d", order, e)
	}
	return h
}

// do does operations that have to come about.
func do(t *testing.T, h api.Heap, ops ...api.Op) api.Heap {
	t.Helper()
	for _, o := range ops {
		next, result := heap.Do(h, o)
		if result.Code != api.OK {
			t.Fatalf("heap.Do(%+v): %d", o, result.Code)
		}
		h = next
	}
	return h
}

func alloc(words, links int) api.Op { return api.Op{Kind: api.OpAlloc, N: words, K: links} }

// full is a heap of objects alone, till there is no room for one more.
func full(t *testing.T, order, words, links int) api.Heap {
	t.Helper()
	h := fresh(t, order)
	for {
		next, result := heap.Do(h, alloc(words, links))
		if result.Code != api.OK {
			return h
		}
		h = next
	}
}

// some is a heap of order 4 with three objects, and free words between them and behind.
func some() api.Heap {
	return api.Heap{
		Order: 4,
		Next:  6,
		Tops:  [api.Roots]int{1, 0, 4, 4},
		Objects: []api.Object{
			{Handle: 1, Block: api.Block{At: 0, Order: 2}, Words: []int{7, -8}, Links: []int{4}},
			{Handle: 3, Block: api.Block{At: 5, Order: 0}},
			{Handle: 4, Block: api.Block{At: 8, Order: 2}, Words: []int{math.MaxInt}, Links: []int{0, 4}},
		},
		Free: []api.Block{{At: 4, Order: 0}, {At: 6, Order: 1}, {At: 12, Order: 2}},
	}
}

// one is a heap with one object in its first words, that has so many words and links.
func one(t *testing.T, order, words, links int) api.Heap {
	t.Helper()
	h := do(t, fresh(t, order), alloc(words, links))
	for i := range h.Objects[0].Words {
		h.Objects[0].Words[i] = anyInts[i%len(anyInts)]
	}
	for i := range h.Objects[0].Links {
		h.Objects[0].Links[i] = i % 2
	}
	return h
}

// anyOp is an operation that often comes about.
func anyOp(d *dice, h api.Heap) api.Op {
	o := api.Op{Kind: api.OpKind(1 + d.below(5)), H: d.below(h.Next), I: d.below(4), T: d.below(h.Next), V: pick(d, anyInts...)}
	o.N, o.K = d.below(4), d.below(4)
	if d.below(3) == 0 {
		o.Kind = api.OpAlloc
	}
	if d.below(8) == 0 {
		o.N, o.K = d.below(33), d.below(17)
	}
	return o
}

// rightHeaps are right heaps of each order, by their names.
func rightHeaps(t *testing.T) map[string]api.Heap {
	t.Helper()
	all := map[string]api.Heap{"some": some()}
	add := func(name string, order int, h api.Heap) { all[name+" of order "+string(rune('0'+order))] = h }
	for order := 3; order <= 8; order++ {
		add("none", order, fresh(t, order))
		add("full of the least", order, full(t, order, 0, 0))
		add("full of three words each", order, full(t, order, 2, 1))
		add("one of no word and no link", order, one(t, order, 0, 0))
		add("one", order, one(t, order, 2, 3))
		add("one that is gone", order, do(t, one(t, order, 2, 3), api.Op{Kind: api.OpFree, H: 1}))
		h := fresh(t, order)
		h.Next = 1000001
		add("none, the last handle came", order, h)
		h = one(t, order, 1, 2)
		h.Objects[0].Handle, h.Objects[0].Links, h.Tops, h.Next = 1000000, []int{1000000, 0}, [api.Roots]int{0, 1000000}, 1000001
		add("the last handle", order, h)
		d := dice(order)
		h = fresh(t, order)
		for range 60 {
			h, _ = heap.Do(h, anyOp(&d, h))
		}
		add("many", order, h)
	}
	add("greatest object", 6, one(t, 6, 32, 16))
	add("greatest object", 8, one(t, 8, 32, 16))
	add("full of the greatest", 8, full(t, 8, 32, 16))
	h := do(t, fresh(t, 6), alloc(0, 3), alloc(1, 1), alloc(0, 16))
	h.Objects[0].Links = []int{1, 2, 3}
	h.Objects[1].Links[0], h.Objects[2].Links[15], h.Tops = 2, 1, [api.Roots]int{3, 2, 1, 3}
	add("links to itself, to others, to none", 6, h)
	h = some()
	h.Objects[0].Block, h.Objects[2].Block = h.Objects[2].Block, h.Objects[0].Block
	add("blocks that do not rise with the handles", 4, h)
	return all
}

// putsHeap looks that a right heap is laid as these bytes, read back from them with what is free, and
// stays as it is.
func putsHeap(t *testing.T, name string, h api.Heap, want []byte) {
	t.Helper()
	before := cloneHeap(h)
	b, e := image.PutHeap(h)
	if e != api.OK || !bytes.Equal(b, want) {
		t.Errorf("P6.2: %s: PutHeap(%+v): % x, %d, not % x", name, h, b, e, want)
	}
	if !sameHeap(h, before) {
		t.Errorf("R2: %s: PutHeap made %+v of %+v", name, h, before)
	}
	if x, e := image.GetHeap(want); e != api.OK || !sameHeap(x, before) {
		t.Errorf("P6.2: %s: GetHeap(% x): %+v, %d, not %+v", name, want, x, e, before)
	}
}

// readsHeap looks by the plain reader what GetHeap makes of bytes: a right heap that is laid as the same
// bytes, or nothing. It tells which.
func readsHeap(t *testing.T, name string, b []byte) bool {
	t.Helper()
	before := slices.Clone(b)
	want, right := plainGetHeap(b)
	wanted := api.ErrImageForm
	if right {
		wanted = api.OK
	}
	h, e := image.GetHeap(b)
	if e != wanted || !sameHeap(h, want) {
		t.Fatalf("P6.2: %s: GetHeap(% x): %+v, %d, not %+v, %d", name, b, h, e, want, wanted)
	}
	if !bytes.Equal(b, before) {
		t.Fatalf("R2: %s: GetHeap wrote into % x", name, before)
	}
	if again, e := image.PutHeap(h); right && (e != api.OK || !bytes.Equal(again, before)) {
		t.Fatalf("P6.4: %s: % x laid anew: % x, %d", name, before, again, e)
	}
	return right
}

// noHeap looks that bytes are no right heap's.
func noHeap(t *testing.T, name string, b []byte) {
	t.Helper()
	h, e := image.GetHeap(b)
	if e != api.ErrImageForm || !sameHeap(h, api.Heap{}) {
		t.Errorf("P6.2, R1: %s: GetHeap(% x): %+v, %d", name, b, h, e)
	}
}

func TestHeapExamples(t *testing.T) {
	putsHeap(t, "a new heap", fresh(t, 3), []byte{
		0, 0, 0, 3, 0, 0, 0, 1,
		0, 0, 0, 0, 0, 0, 0, 0, 0, 0, 0, 0, 0, 0, 0, 0,
		0, 0, 0, 0,
	})
	noHeap(t, "no bytes", nil)
	noHeap(t, "no bytes", []byte{})
	if b, e := image.PutHeap(api.Heap{}); b != nil || e != api.ErrImageForm {
		t.Errorf("P6.2, R1: PutHeap(zero): % x, %d", b, e)
	}
}

func TestHeapBytes(t *testing.T) {
	h := some()
	h.Tops, h.Next = [api.Roots]int{1, 0, 4, 3}, 0x0a0b0c
	putsHeap(t, "some", h, []byte{
		0, 0, 0, 4, 0, 10, 11, 12,
		0, 0, 0, 1, 0, 0, 0, 0, 0, 0, 0, 4, 0, 0, 0, 3,
		0, 0, 0, 3,
		0, 0, 0, 1, 0, 0, 0, 0, 0, 0, 0, 2, 0, 0, 0, 1,
		0, 0, 0, 0, 0, 0, 0, 7, 255, 255, 255, 255, 255, 255, 255, 248,
		0, 0, 0, 4,
		0, 0, 0, 3, 0, 0, 0, 5, 0, 0, 0, 0, 0, 0, 0, 0,
		0, 0, 0, 4, 0, 0, 0, 8, 0, 0, 0, 1, 0, 0, 0, 2,
		127, 255, 255, 255, 255, 255, 255, 255,
		0, 0, 0, 0, 0, 0, 0, 4,
	})
}

func TestHeaps(t *testing.T) {
	for name, h := range rightHeaps(t) {
		b := plainHeap(h)
		putsHeap(t, name, h, b)
		for n := range len(b) {
			noHeap(t, name+", a beginning", b[:n])
		}
		for _, more := range []byte{0, 1, 128, 255} {
			noHeap(t, name+", one more", append(slices.Clip(b), more))
		}
		noHeap(t, name+", twice", slices.Concat(b, b))
		noHeap(t, name+", one ahead", slices.Concat([]byte{0}, b))
		noHeap(t, name+", without its first", b[1:])
	}
}

// TestHeapWalk: whatever operations make is laid and read.
func TestHeapWalk(t *testing.T) {
	for order := 3; order <= 8; order++ {
		d := dice(20 + order)
		h := fresh(t, order)
		for range 400 {
			h, _ = heap.Do(h, anyOp(&d, h))
			putsHeap(t, "a walk", h, plainHeap(h))
		}
	}
}

// TestHeapTurned: each byte of an image is turned into each other one; what is read then is right.
func TestHeapTurned(t *testing.T) {
	greatest := one(t, 6, 32, 16)
	links := rightHeaps(t)["links to itself, to others, to none of order 6"]
	read := 0
	for name, h := range map[string]api.Heap{"none": fresh(t, 3), "some": some(), "greatest": greatest, "links": links, "full": full(t, 3, 0, 0)} {
		b := plainHeap(h)
		for i := range b {
			for turn := 1; turn < 256; turn++ {
				b[i] ^= byte(turn)
				if readsHeap(t, name, b) {
					read++
				}
				b[i] ^= byte(turn)
			}
		}
	}
	if read < 10000 {
		t.Errorf("P6.4: only %d of the turned images were read", read)
	}
}

// TestHeapNumbersChanged: a number of an image, or two, by a little, anywhere.
func TestHeapNumbersChanged(t *testing.T) {
	for order := 3; order <= 8; order++ {
		d := dice(40 + order)
		h := fresh(t, order)
		for range 300 {
			h, _ = heap.Do(h, anyOp(&d, h))
			for range 20 {
				b := plainHeap(h)
				for range 1 + d.below(2) {
					at := 4 * d.below(len(b)/4)
					n := int(b[at+3]) + pick(&d, -16, -8, -4, -2, -1, 1, 2, 4, 8, 16)
					b[at+3] = byte(n)
				}
				readsHeap(t, "a number changed", b)
			}
		}
	}
}

// TestHeapAnyBytes: bytes of no plan, and parts of images put together.
func TestHeapAnyBytes(t *testing.T) {
	d := dice(60)
	laid := plainHeap(some())
	for range 20000 {
		b := make([]byte, d.below(80))
		for i := range b {
			b[i] = byte(pick(&d, 0, 0, 0, 1, 3, 4, d.below(256)))
		}
		readsHeap(t, "any bytes", b)
		from, to := 4*d.below(len(laid)/4), 4*d.below(len(laid)/4)
		readsHeap(t, "parts", slices.Concat(laid[:from], laid[to:]))
	}
}

// TestHeapMemory: answers are new, and share no memory with what was handed in.
func TestHeapMemory(t *testing.T) {
	for name, h := range rightHeaps(t) {
		want := plainHeap(h)
		mine := cloneHeap(h)
		first, _ := image.PutHeap(mine)
		second, _ := image.PutHeap(mine)
		spoilHeap(mine)
		clear(first[:cap(first)])
		if !bytes.Equal(second, want) {
			t.Errorf("R2: %s: PutHeap's answers share memory", name)
		}
		room := append(slices.Clone(want), 9, 9, 9, 9, 9, 9, 9, 9)
		this, _ := image.GetHeap(room[:len(want)])
		other, _ := image.GetHeap(room[:len(want)])
		if !bytes.Equal(room[:len(want)], want) || !bytes.Equal(room[len(want):], bytes.Repeat([]byte{9}, 8)) {
			t.Errorf("R2: %s: GetHeap wrote into what was handed in", name)
		}
		clear(room)
		if !sameHeap(this, h) {
			t.Errorf("R2: %s: GetHeap keeps what was handed in: %+v", name, this)
		}
		if !spoilHeap(this) || !sameHeap(other, h) {
			t.Errorf("R2: %s: the lists of GetHeap's answers share memory: %+v", name, other)
		}
	}
}

// spoilHeap writes over all the memory of a heap's lists, spare memory too. It tells whether all of it
// is there in the end, as it is if no two lists share any.
func spoilHeap(h api.Heap) bool {
	var lists [][]int
	for _, o := range h.Objects {
		lists = append(lists, o.Words, o.Links)
	}
	for i, list := range lists {
		for j := range list[:cap(list)] {
			list[:cap(list)][j] = 1000 + i
		}
	}
	objects, free := h.Objects[:cap(h.Objects)], h.Free[:cap(h.Free)]
	for i := range objects {
		objects[i] = api.Object{Handle: -77, Block: api.Block{At: -77, Order: -77}}
	}
	for i := range free {
		free[i] = api.Block{At: -78, Order: -78}
	}
	for i, list := range lists {
		for _, n := range list[:cap(list)] {
			if n != 1000+i {
				return false
			}
		}
	}
	return true
}

// TestHeapOneMemory: a heap whose lists lie in one another's memory is laid as any other, and none of it is written.
func TestHeapOneMemory(t *testing.T) {
	n := []int{1, 2, 0, 2, 1, 77, 88}
	objects := []api.Object{
		{Handle: 66},
		{Handle: 1, Block: api.Block{At: 0, Order: 2}, Words: n[0:2], Links: n[1:2]},
		{Handle: 2, Block: api.Block{At: 4, Order: 2}, Words: n[0:0], Links: n[2:5]},
		{Handle: 67, Words: n, Links: n},
	}
	blocks := []api.Block{{At: 66}, {At: 8, Order: 3}, {At: 67}}
	h := api.Heap{Order: 4, Next: 3, Tops: [api.Roots]int{2, 1}, Objects: objects[1:3], Free: blocks[1:2]}
	before := cloneHeap(api.Heap{Objects: objects, Free: blocks})
	putsHeap(t, "lists in one another's memory", h, plainHeap(h))
	image.Check(api.State{Heap: h})
	image.PutState(api.State{Heap: h})
	if !sameHeap(api.Heap{Objects: objects, Free: blocks}, before) || !slices.Equal(n, []int{1, 2, 0, 2, 1, 77, 88}) {
		t.Errorf("R2: memory was written: %v, %+v, %+v", n, objects, blocks)
	}
}

// TestHeapEmptyLists: lists that are empty and lists that are nil are laid alike.
func TestHeapEmptyLists(t *testing.T) {
	h := some()
	h.Objects[1].Words, h.Objects[1].Links = []int{}, make([]int, 0, 4)
	putsHeap(t, "empty lists", h, plainHeap(some()))
	none := fresh(t, 3)
	none.Objects = []api.Object{}
	putsHeap(t, "an empty list of objects", none, plainHeap(fresh(t, 3)))
	crowded := full(t, 3, 0, 0)
	crowded.Free = []api.Block{}
	putsHeap(t, "an empty list of free blocks", crowded, plainHeap(full(t, 3, 0, 0)))
}
