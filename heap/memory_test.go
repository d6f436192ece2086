package heap_test

import (
	"slices"
	"testing"

	"tumulus/api"
	"tumulus/heap"
)

// memory is what the lists of a heap lie in.
type memory struct {
	numbers []int
	blocks  []api.Block
	objects []api.Object
}

// narrow is a heap whose lists lie in one another's memory: links lie in words, a list lies ahead of
// another one and has it as its spare memory, and behind the free blocks and the objects lie others.
func narrow() (api.Heap, memory) {
	m := memory{
		numbers: []int{1, 2, 0, 2, 1, 77, 88},
		blocks:  []api.Block{{At: 66}, {At: 8, Order: 2}, {At: 12, Order: 2}, {At: 67}, {At: 68}},
		objects: make([]api.Object, 5),
	}
	n := m.numbers
	m.objects[0] = api.Object{Handle: 66}
	m.objects[1] = api.Object{Handle: 1, Block: api.Block{At: 0, Order: 2}, Words: n[0:2], Links: n[1:2]}
	m.objects[2] = api.Object{Handle: 2, Block: api.Block{At: 4, Order: 2}, Words: n[0:0], Links: n[2:5]}
	m.objects[3] = api.Object{Handle: 3, Block: api.Block{At: 8, Order: 2}, Words: n[1:3], Links: n[3:4]}
	m.objects[4] = api.Object{Handle: 67, Words: n, Links: n}
	return api.Heap{Order: 4, Next: 4, Tops: [api.Roots]int{3, 2, 1}, Objects: m.objects[1:4], Free: m.blocks[2:3]}, m
}

func (m memory) clone() memory {
	return memory{slices.Clone(m.numbers), slices.Clone(m.blocks), clone(api.Heap{Objects: m.objects}).Objects}
}

func (m memory) same(other memory) bool {
	return slices.Equal(m.numbers, other.numbers) &&
		same(api.Heap{Free: m.blocks, Objects: m.objects}, api.Heap{Free: other.blocks, Objects: other.objects})
}

// each is operations of all kinds, that do something, that only ask, and that fail.
func each() []api.Op {
	all := []api.Op{alloc(0, 0), alloc(2, 2), alloc(1, 1), alloc(3, 0), alloc(4, 0), alloc(32, 16), alloc(33, 0), {}, {Kind: 9}}
	for handle := range 6 {
		all = append(all, drop(handle))
		for i := -1; i < 5; i++ {
			all = append(all, write(handle, i, 9), read(handle, i), link(handle, i, 3), link(handle, i, 4), follow(handle, i))
			all = append(all, root(i, handle), top(i))
		}
	}
	return all
}

// TestOneMemory: of a heap whose lists lie in one another's memory the same comes as of one whose lists
// don't, and no memory of it is written, spare memory neither.
func TestOneMemory(t *testing.T) {
	h, _ := narrow()
	right(t, "lists in one another's memory", h)
	for _, o := range each() {
		h, m := narrow()
		before := m.clone()
		want, wanted := plainDo(h, o)
		do(t, clone(h), o)
		next, result := heap.Do(h, o)
		if result != wanted || !same(next, want) {
			t.Errorf("R2: %+v, lists in one another's memory: %+v, %+v, not %+v, %+v", o, next, result, want, wanted)
		}
		if !spoil(next) || !m.same(before) {
			t.Errorf("R2: %+v: what comes out shares its memory: %+v became %+v", o, before, m)
		}
	}
}

// TestWalkNarrow: operations one behind the other on heaps whose lists all lie in one memory, with spare
// capacity behind each.
func TestWalkNarrow(t *testing.T) {
	d := dice(11)
	h := fresh(t, 5)
	for range 2000 {
		tight, m := together(h)
		before := m.clone()
		o := anyOp(&d, h)
		want, wanted := plainDo(h, o)
		next, result := heap.Do(tight, o)
		if result != wanted || !same(next, want) {
			t.Fatalf("R2: %+v of %+v in one memory: %+v, %+v, not %+v, %+v", o, h, next, result, want, wanted)
		}
		if !spoil(next) || !m.same(before) {
			t.Fatalf("R2: %+v of %+v in one memory wrote into it: %+v", o, before, m)
		}
		h = want
	}
}

// together lays the lists of a heap into one memory.
func together(h api.Heap) (api.Heap, memory) {
	m := memory{blocks: append(slices.Clone(h.Free), make([]api.Block, 20)...), objects: append(clone(h).Objects, make([]api.Object, 20)...)}
	for _, list := range lists(h) {
		m.numbers = append(m.numbers, list...)
	}
	m.numbers = append(m.numbers, make([]int, 50)...)
	at := 0
	for i, o := range h.Objects {
		links := at + len(o.Words)
		end := links + len(o.Links)
		m.objects[i].Words, m.objects[i].Links = m.numbers[at:links], m.numbers[links:end]
		at = end
	}
	h.Objects, h.Free = m.objects[:len(h.Objects)], m.blocks[:len(h.Free)]
	return h, m
}

// TestAnswersApart: what two calls answer shares no memory, and what is done with an answer later does not
// come to what it was made of.
func TestAnswersApart(t *testing.T) {
	for _, o := range each() {
		h := some()
		first, _ := heap.Do(h, o)
		second, _ := heap.Do(h, o)
		kept := clone(second)
		spoil(first)
		if !same(second, kept) || !same(h, some()) {
			t.Errorf("R2: two answers of %+v share their memory", o)
		}
		spoil(h)
		if !same(second, kept) {
			t.Errorf("R2: an answer of %+v shares its memory with what was handed in", o)
		}
	}
}

// TestEmptyLists: lists that are empty and lists that are nil are done alike.
func TestEmptyLists(t *testing.T) {
	h, empty := some(), some()
	empty.Objects[1].Words, empty.Objects[1].Links = []int{}, make([]int, 0, 4)
	right(t, "empty lists", empty)
	for _, o := range each() {
		want, wanted := heap.Do(h, o)
		if next, result := heap.Do(empty, o); result != wanted || !same(next, want) {
			t.Errorf("P5.2: %+v, empty lists: %+v, %+v, not %+v, %+v", o, next, result, want, wanted)
		}
	}
	full := fill(t, 3, 0, 0)
	full.Free = []api.Block{}
	right(t, "an empty list of free blocks", full)
	fails(t, full, alloc(0, 0), api.ErrHeapSpace)
	none := fresh(t, 3)
	none.Objects = []api.Object{}
	right(t, "an empty list of objects", none)
	tells(t, none, alloc(0, 0), 1)
}
