package buddy_test

import (
	"math"
	"slices"
	"testing"

	"tumulus/api"
	"tumulus/buddy"
)

// noRegions are no region's orders.
var noRegions = []int{2, 9, -1, 0, 1, 10, 63, 64, 65, -8, -64, math.MaxInt, math.MaxInt - 1, math.MinInt, math.MinInt + 1}

// plain is a region by one bool a word, that says whether it is free.
type plain []bool

// fresh is a region of which all is free, or nothing.
func fresh(order int, free bool) plain {
	p := make(plain, 1<<order)
	for i := range p {
		p[i] = free
	}
	return p
}

// all tells whether each word of a block is free, or each is taken.
func (p plain) all(b api.Block, free bool) bool {
	return !slices.Contains(p[b.At:b.At+1<<b.Order], !free)
}

func (p plain) put(b api.Block, free bool) {
	for i := range 1 << b.Order {
		p[b.At+i] = free
	}
}

func (p plain) count() int {
	count := 0
	for _, free := range p {
		if free {
			count++
		}
	}
	return count
}

// blocks is the one list that is right and has these words: were a block that is free as a whole cut into
// several, the smallest of them would be twins.
func (p plain) blocks() []api.Block {
	var blocks []api.Block
	for at := 0; at < len(p); {
		order := 0
		for 1<<order < len(p) {
			b := api.Block{At: at, Order: order + 1}
			if at%(2<<order) != 0 || !p.all(b, true) {
				break
			}
			order++
		}
		if p[at] {
			blocks = append(blocks, api.Block{At: at, Order: order})
			at += 1 << order
		} else {
			at++
		}
	}
	return blocks
}

// least is the place among free blocks of the one that Take has to take from, -1 if there is none.
func least(free []api.Block, want int) int {
	found := -1
	for i, b := range free {
		if b.Order >= want && (found < 0 || b.Order < free[found].Order) {
			found = i
		}
	}
	return found
}

// inside is all blocks that may be in a region.
func inside(order int) []api.Block {
	var blocks []api.Block
	for o := range order + 1 {
		for at := 0; at < 1<<order; at += 1 << o {
			blocks = append(blocks, api.Block{At: at, Order: o})
		}
	}
	return blocks
}

// outside is blocks that may not be in a region of this order: of an order that is none there, at no
// multiple of their size, ahead of the region, or behind it.
func outside(order int) []api.Block {
	words := 1 << order
	blocks := []api.Block{{Order: order + 1}, {Order: order + 2}, {At: words, Order: order}, {At: -words, Order: order}}
	for _, o := range []int{-1, -2, -64, 9, 62, 63, 64, 65, math.MaxInt, math.MinInt} {
		blocks = append(blocks, api.Block{Order: o}, api.Block{At: 1, Order: o})
	}
	for o := range order + 1 {
		size := 1 << o
		for _, at := range []int{-size, -1, words, words + size, words - size + 1, math.MinInt, math.MaxInt, math.MaxInt - size + 1} {
			blocks = append(blocks, api.Block{At: at, Order: o})
		}
		for _, at := range []int{1, size / 2, size - 1, size + 1, words - 1, words/2 + size/2} {
			if at%size != 0 {
				blocks = append(blocks, api.Block{At: at, Order: o})
			}
		}
	}
	return blocks
}

// region is the region of order 3 whose free words are the bits of value that are 1.
func region(value int) plain {
	p := make(plain, 8)
	for i := range p {
		p[i] = value>>i&1 == 1
	}
	return p
}

// dice is a row of numbers by a rule.
type dice uint64

func (d *dice) below(n int) int {
	*d = *d*6364136223846793005 + 1442695040888963407
	return int(uint64(*d) >> 33 % uint64(n))
}

func (d *dice) mix(blocks []api.Block) []api.Block {
	mixed := slices.Clone(blocks)
	for i := range mixed {
		j := i + d.below(len(mixed)-i)
		mixed[i], mixed[j] = mixed[j], mixed[i]
	}
	return mixed
}

// all makes the free blocks of a whole region.
func all(t *testing.T, order int) []api.Block {
	t.Helper()
	free, e := buddy.All(order)
	if e != api.OK || !slices.Equal(free, []api.Block{{At: 0, Order: order}}) {
		t.Fatalf("P4.1: All(%d): %v, %d", order, free, e)
	}
	return free
}

// take takes a block, of a region that has one, and looks by the plain region that it is the one to take.
func take(t *testing.T, order int, p plain, free []api.Block, want int) (api.Block, []api.Block) {
	t.Helper()
	before := slices.Clone(free)
	b, left, e := buddy.Take(order, free, want)
	if !slices.Equal(free, before) {
		t.Fatalf("R2: Take(%d, %v, %d) wrote into what it was handed: %v", order, before, want, free)
	}
	from := least(free, want)
	if from < 0 {
		if b != (api.Block{}) || left != nil || e != api.ErrBuddyFull {
			t.Fatalf("P4.2: Take(%d, %v, %d): %v, %v, %d", order, free, want, b, left, e)
		}
		return b, slices.Clone(free)
	}
	if e != api.OK || b != (api.Block{At: free[from].At, Order: want}) {
		t.Fatalf("P4.2: Take(%d, %v, %d): %v, %v, %d", order, free, want, b, left, e)
	}
	after := slices.Clone(p)
	after.put(b, false)
	if !slices.Equal(left, after.blocks()) {
		t.Fatalf("P4.2: Take(%d, %v, %d): %v, free %v, not %v", order, free, want, b, left, after.blocks())
	}
	return b, left
}

// give gives a block back that may be in the region, and looks by the plain region what comes of it.
func give(t *testing.T, order int, p plain, free []api.Block, b api.Block) []api.Block {
	t.Helper()
	before := slices.Clone(free)
	left, e := buddy.Give(order, free, b)
	if !slices.Equal(free, before) {
		t.Fatalf("R2: Give(%d, %v, %v) wrote into what it was handed: %v", order, before, b, free)
	}
	if !p.all(b, false) {
		if left != nil || e != api.ErrBuddyBlock {
			t.Fatalf("P4.3: Give(%d, %v, %v): %v, %d", order, free, b, left, e)
		}
		return slices.Clone(free)
	}
	after := slices.Clone(p)
	after.put(b, true)
	if e != api.OK || !slices.Equal(left, after.blocks()) {
		t.Fatalf("P4.3: Give(%d, %v, %v): %v, %d, not %v", order, free, b, left, e, after.blocks())
	}
	return left
}

// wrong looks that these are no free blocks of a region of this order, whatever is asked.
func wrong(t *testing.T, order int, free []api.Block) {
	t.Helper()
	before := slices.Clone(free)
	if e := buddy.Check(order, free); e != api.ErrArg {
		t.Errorf("P4.1: Check(%d, %v): %d", order, free, e)
	}
	for _, want := range []int{0, 1, 3, order, -1, order + 1, math.MaxInt, math.MinInt} {
		if buddy.Room(order, free, want) {
			t.Errorf("P4.1: Room(%d, %v, %d)", order, free, want)
		}
		if b, left, e := buddy.Take(order, free, want); b != (api.Block{}) || left != nil || e != api.ErrArg {
			t.Errorf("P4.2: Take(%d, %v, %d): %v, %v, %d", order, free, want, b, left, e)
		}
	}
	for _, b := range []api.Block{{}, {At: 1}, {At: 7}, {At: 4, Order: 2}, {At: -1}, {Order: order + 1}, {Order: -1}} {
		if left, e := buddy.Give(order, free, b); left != nil || e != api.ErrArg {
			t.Errorf("P4.3: Give(%d, %v, %v): %v, %d", order, free, b, left, e)
		}
	}
	if !slices.Equal(free, before) {
		t.Errorf("R2: %v became %v", before, free)
	}
}

// right looks that these are free blocks of a region of this order, and that there is room in them just
// for what the greatest has.
func right(t *testing.T, order int, free []api.Block) {
	t.Helper()
	if e := buddy.Check(order, free); e != api.OK {
		t.Errorf("P4.1: Check(%d, %v): %d", order, free, e)
	}
	for want := -2; want <= 10; want++ {
		room := want >= 0 && want <= order && least(free, want) >= 0
		if buddy.Room(order, free, want) != room {
			t.Errorf("P4.1: Room(%d, %v, %d): %v", order, free, want, !room)
		}
	}
}

func TestExamples(t *testing.T) {
	whole := all(t, 3)
	b, free, e := buddy.Take(3, whole, 1)
	if b != (api.Block{At: 0, Order: 1}) || !slices.Equal(free, []api.Block{{At: 2, Order: 1}, {At: 4, Order: 2}}) || e != api.OK {
		t.Errorf("P4.2: %v, %v, %d", b, free, e)
	}
	back, e := buddy.Give(3, free, b)
	if !slices.Equal(back, []api.Block{{At: 0, Order: 3}}) || e != api.OK {
		t.Errorf("P4.3: %v, %d", back, e)
	}
	if b, free, e = buddy.Take(3, nil, 0); b != (api.Block{}) || free != nil || e != api.ErrBuddyFull {
		t.Errorf("P4.2: %v, %v, %d", b, free, e)
	}
	if back, e = buddy.Give(3, whole, api.Block{At: 0, Order: 0}); back != nil || e != api.ErrBuddyBlock {
		t.Errorf("P4.3: %v, %d", back, e)
	}
	if back, e = buddy.Give(3, nil, api.Block{At: 1, Order: 1}); back != nil || e != api.ErrBuddyBlock {
		t.Errorf("P4.3: %v, %d", back, e)
	}
}

func TestNoRegion(t *testing.T) {
	for _, order := range noRegions {
		if free, e := buddy.All(order); free != nil || e != api.ErrArg {
			t.Errorf("P4.1: All(%d): %v, %d", order, free, e)
		}
		wrong(t, order, nil)
		wrong(t, order, []api.Block{})
		wrong(t, order, []api.Block{{At: 0, Order: 0}})
		wrong(t, order, []api.Block{{At: 0, Order: order}})
		wrong(t, order, []api.Block{{At: 0, Order: 1}, {At: 2, Order: 0}})
	}
}

func TestEachRegion(t *testing.T) {
	for order := 3; order <= 8; order++ {
		right(t, order, nil)
		right(t, order, []api.Block{})
		right(t, order, all(t, order))
		for _, b := range inside(order) {
			right(t, order, []api.Block{b})
		}
		for _, b := range outside(order) {
			wrong(t, order, []api.Block{b})
		}
	}
}

func TestWords(t *testing.T) {
	for order, want := range []int{1, 2, 4, 8, 16, 32, 64, 128, 256} {
		if got := buddy.Words(order); got != want {
			t.Errorf("P4.1: Words(%d): %d", order, got)
		}
	}
	for _, order := range []int{-1, -2, -3, -63, -64, 9, 10, 31, 32, 62, 63, 64, 65, math.MaxInt, math.MinInt} {
		if got := buddy.Words(order); got != 0 {
			t.Errorf("P4.1: Words(%d): %d", order, got)
		}
	}
}

func TestRightBlocks(t *testing.T) {
	right(t, 3, []api.Block{{At: 0, Order: 0}, {At: 2, Order: 1}, {At: 4, Order: 2}})
	right(t, 3, []api.Block{{At: 0, Order: 2}, {At: 4, Order: 1}, {At: 6, Order: 0}})
	right(t, 3, []api.Block{{At: 0, Order: 0}, {At: 7, Order: 0}})
	right(t, 8, []api.Block{{At: 1, Order: 0}, {At: 128, Order: 7}})
	// Neighbours that are no twins: of one order, the block that both would make is in no such place.
	right(t, 3, []api.Block{{At: 1, Order: 0}, {At: 2, Order: 0}})
	right(t, 3, []api.Block{{At: 2, Order: 1}, {At: 4, Order: 1}})
	right(t, 3, []api.Block{{At: 1, Order: 0}, {At: 2, Order: 0}, {At: 5, Order: 0}, {At: 6, Order: 0}})
	right(t, 8, []api.Block{{At: 64, Order: 6}, {At: 128, Order: 6}})
	// Of unlike orders, they begin where twins would.
	right(t, 3, []api.Block{{At: 0, Order: 1}, {At: 2, Order: 0}})
	right(t, 3, []api.Block{{At: 1, Order: 0}, {At: 2, Order: 1}})
}

func TestWrongBlocks(t *testing.T) {
	for _, free := range [][]api.Block{
		{{At: 4, Order: 1}, {At: 0, Order: 1}},                     // not rising
		{{At: 0, Order: 0}, {At: 4, Order: 2}, {At: 2, Order: 1}},  // nor these
		{{At: 2, Order: 0}, {At: 2, Order: 0}},                     // one twice
		{{At: 0, Order: 3}, {At: 0, Order: 3}},                     // the whole region twice
		{{At: 0, Order: 3}, {At: 0, Order: 0}},                     // one in another one, at its begin
		{{At: 0, Order: 0}, {At: 0, Order: 3}},                     // the other way about
		{{At: 0, Order: 2}, {At: 3, Order: 0}},                     // at its end
		{{At: 0, Order: 2}, {At: 2, Order: 1}},                     // and half of it
		{{At: 0, Order: 3}, {At: 1, Order: 0}, {At: 7, Order: 0}},  // two in one
		{{At: 0, Order: 3}, {At: 4, Order: 0}, {At: 6, Order: 1}},  // not of neighbours alone
		{{At: 0, Order: 0}, {At: 1, Order: 0}},                     // twins
		{{At: 6, Order: 0}, {At: 7, Order: 0}},                     // twins at the region's end
		{{At: 0, Order: 2}, {At: 4, Order: 2}},                     // halves of the region
		{{At: 0, Order: 0}, {At: 4, Order: 1}, {At: 6, Order: 1}},  // twins behind another one
		{{At: 1, Order: 0}, {At: 0, Order: 0}},                     // twins that do not rise
		{{At: 1, Order: 1}},                                        // no multiple of the size
		{{At: 2, Order: 2}},                                        // nor this
		{{At: 4, Order: 3}},                                        // that ends beyond the region
		{{At: 6, Order: 2}},                                        // and this
		{{At: 8, Order: 0}},                                        // behind it
		{{At: 0, Order: 0}, {At: 8, Order: 1}},                     // and behind one that may be
		{{At: -1, Order: 0}},                                       // ahead of it
		{{At: -2, Order: 1}, {At: 4, Order: 0}},                    // and ahead of one that may be
		{{At: 0, Order: -1}},                                       // an order below 0
		{{At: 0, Order: 4}},                                        // above the region's
		{{At: 0, Order: 1}, {At: 4, Order: 1}, {At: 7, Order: -1}}, // at the end of others
	} {
		wrong(t, 3, free)
	}
	wrong(t, 8, []api.Block{{At: 0, Order: 7}, {At: 128, Order: 7}})
	wrong(t, 8, []api.Block{{At: 254, Order: 0}, {At: 255, Order: 0}})
	wrong(t, 7, []api.Block{{At: 0, Order: 8}})
	wrong(t, 8, []api.Block{{At: 0, Order: 9}})
}

// Every list of up to three blocks is right, just if it is the one list that is right and has its words.
func TestCheckOfEachShortList(t *testing.T) {
	blocks := append(inside(3), api.Block{At: -1}, api.Block{At: 8}, api.Block{At: 1, Order: 1}, api.Block{At: 2, Order: 2}, api.Block{Order: 4}, api.Block{Order: -1})
	known := len(inside(3))
	may := func(free []api.Block) bool {
		p := fresh(3, false)
		for _, b := range free {
			if slices.Index(blocks, b) >= known {
				return false
			}
			p.put(b, true)
		}
		return slices.Equal(free, p.blocks())
	}
	look := func(free ...api.Block) {
		want := api.OK
		if !may(free) {
			want = api.ErrArg
		}
		if e := buddy.Check(3, free); e != want {
			t.Fatalf("P4.1: Check(3, %v): %d, not %d", free, e, want)
		}
	}
	for _, a := range blocks {
		look(a)
		for _, b := range blocks {
			look(a, b)
			for _, c := range blocks {
				look(a, b, c)
			}
		}
	}
}

// Lists of more blocks than a region has words, or than every other one of them.
func TestCheckOfLongLists(t *testing.T) {
	many := make([]api.Block, 1<<20)
	for i := range many {
		many[i] = api.Block{At: 2 * i}
	}
	wrong(t, 8, many)
	right(t, 8, many[:128])
	wrong(t, 8, many[:129])
	wrong(t, 7, many[:128])
	right(t, 7, many[:64])
	clear(many)
	wrong(t, 3, many)
}

// Of all 256 regions of order 3 every block is taken, and every one given, that may be in them or not.
func TestEachRegionOfEightWords(t *testing.T) {
	for value := range 256 {
		p := region(value)
		free := p.blocks()
		right(t, 3, free)
		for want := range 4 {
			take(t, 3, p, free, want)
		}
		for _, b := range inside(3) {
			give(t, 3, p, free, b)
		}
		for _, b := range outside(3) {
			if left, e := buddy.Give(3, free, b); left != nil || e != api.ErrBuddyBlock {
				t.Fatalf("P4.3: Give(3, %v, %v): %v, %d", free, b, left, e)
			}
		}
	}
}

func TestTakeOfNoOrder(t *testing.T) {
	for order := 3; order <= 8; order++ {
		for _, free := range [][]api.Block{nil, all(t, order), {{At: 0, Order: 1}, {At: 4, Order: 2}}} {
			for _, want := range []int{-1, -2, -8, order + 1, order + 2, 9, 64, math.MaxInt, math.MinInt} {
				if b, left, e := buddy.Take(order, free, want); b != (api.Block{}) || left != nil || e != api.ErrArg {
					t.Errorf("P4.2: Take(%d, %v, %d): %v, %v, %d", order, free, want, b, left, e)
				}
				if buddy.Room(order, free, want) {
					t.Errorf("P4.1: Room(%d, %v, %d)", order, free, want)
				}
			}
		}
	}
}

// Where several orders are free, the least that is enough is taken, and of it the block that comes first.
func TestTakeOfTheLeast(t *testing.T) {
	free := []api.Block{{At: 0, Order: 3}, {At: 12, Order: 1}, {At: 15, Order: 0}, {At: 16, Order: 2}, {At: 24, Order: 1}, {At: 32, Order: 5}, {At: 68, Order: 2}, {At: 98, Order: 0}}
	for _, x := range []struct {
		want int
		b    api.Block
		left []api.Block
	}{
		{0, api.Block{At: 15, Order: 0}, []api.Block{{At: 0, Order: 3}, {At: 12, Order: 1}, {At: 16, Order: 2}, {At: 24, Order: 1}, {At: 32, Order: 5}, {At: 68, Order: 2}, {At: 98, Order: 0}}},
		{1, api.Block{At: 12, Order: 1}, []api.Block{{At: 0, Order: 3}, {At: 15, Order: 0}, {At: 16, Order: 2}, {At: 24, Order: 1}, {At: 32, Order: 5}, {At: 68, Order: 2}, {At: 98, Order: 0}}},
		{2, api.Block{At: 16, Order: 2}, []api.Block{{At: 0, Order: 3}, {At: 12, Order: 1}, {At: 15, Order: 0}, {At: 24, Order: 1}, {At: 32, Order: 5}, {At: 68, Order: 2}, {At: 98, Order: 0}}},
		{3, api.Block{At: 0, Order: 3}, []api.Block{{At: 12, Order: 1}, {At: 15, Order: 0}, {At: 16, Order: 2}, {At: 24, Order: 1}, {At: 32, Order: 5}, {At: 68, Order: 2}, {At: 98, Order: 0}}},
		{4, api.Block{At: 32, Order: 4}, []api.Block{{At: 0, Order: 3}, {At: 12, Order: 1}, {At: 15, Order: 0}, {At: 16, Order: 2}, {At: 24, Order: 1}, {At: 48, Order: 4}, {At: 68, Order: 2}, {At: 98, Order: 0}}},
	} {
		b, left, e := buddy.Take(7, free, x.want)
		if b != x.b || !slices.Equal(left, x.left) || e != api.OK {
			t.Errorf("P4.2: Take of %d: %v, %v, %d", x.want, b, left, e)
		}
	}
	if b, left, e := buddy.Take(7, free, 6); b != (api.Block{}) || left != nil || e != api.ErrBuddyFull {
		t.Errorf("P4.2: %v, %v, %d", b, left, e)
	}
}

// Of a whole region the lower halves go on, and each upper one is free.
func TestTakeHalvesOften(t *testing.T) {
	for order := 3; order <= 8; order++ {
		for want := range order + 1 {
			var left []api.Block
			for o := want; o < order; o++ {
				left = append(left, api.Block{At: 1 << o, Order: o})
			}
			b, free, e := buddy.Take(order, all(t, order), want)
			if b != (api.Block{At: 0, Order: want}) || !slices.Equal(free, left) || e != api.OK {
				t.Errorf("P4.2: Take(%d, All, %d): %v, %v, %d", order, want, b, free, e)
			}
			back, e := buddy.Give(order, free, b)
			if !slices.Equal(back, all(t, order)) || e != api.OK {
				t.Errorf("P4.4: Give(%d, %v, %v): %v, %d", order, free, b, back, e)
			}
		}
	}
	b, free, e := buddy.Take(8, []api.Block{{At: 5}, {At: 192, Order: 6}}, 1)
	if b != (api.Block{At: 192, Order: 1}) || e != api.OK {
		t.Errorf("P4.2: %v, %d", b, e)
	}
	if want := []api.Block{{At: 5}, {At: 194, Order: 1}, {At: 196, Order: 2}, {At: 200, Order: 3}, {At: 208, Order: 4}, {At: 224, Order: 5}}; !slices.Equal(free, want) {
		t.Errorf("P4.2: %v, not %v", free, want)
	}
}

func TestTakeOfTheLastOne(t *testing.T) {
	for order := 3; order <= 8; order++ {
		for _, last := range inside(order) {
			b, free, e := buddy.Take(order, []api.Block{last}, last.Order)
			if b != last || len(free) != 0 || e != api.OK {
				t.Fatalf("P4.2: Take(%d, %v, %d): %v, %v, %d", order, last, last.Order, b, free, e)
			}
			b, free, e = buddy.Take(order, free, 0)
			if b != (api.Block{}) || free != nil || e != api.ErrBuddyFull {
				t.Fatalf("P4.2: Take(%d, none, 0): %v, %v, %d", order, b, free, e)
			}
		}
	}
}

func TestTakeWithoutRoom(t *testing.T) {
	for order := 3; order <= 8; order++ {
		for want := range order + 1 {
			if b, left, e := buddy.Take(order, nil, want); b != (api.Block{}) || left != nil || e != api.ErrBuddyFull {
				t.Errorf("P4.2: Take(%d, none, %d): %v, %v, %d", order, want, b, left, e)
			}
		}
		// Half of the words are free, and nothing but for the least want.
		var free []api.Block
		for at := 1; at < 1<<order; at += 2 {
			free = append(free, api.Block{At: at})
		}
		for want := 1; want <= order; want++ {
			if b, left, e := buddy.Take(order, free, want); b != (api.Block{}) || left != nil || e != api.ErrBuddyFull {
				t.Errorf("P4.2: Take(%d, every other word, %d): %v, %v, %d", order, want, b, left, e)
			}
		}
		right(t, order, free)
	}
}

func TestGiveOfNoBlock(t *testing.T) {
	for order := 3; order <= 8; order++ {
		for _, free := range [][]api.Block{nil, {{At: 1, Order: 0}, {At: 4, Order: 1}}, all(t, order)} {
			for _, b := range outside(order) {
				if left, e := buddy.Give(order, free, b); left != nil || e != api.ErrBuddyBlock {
					t.Errorf("P4.3: Give(%d, %v, %v): %v, %d", order, free, b, left, e)
				}
			}
		}
	}
}

// A block of which a word is free already does not come back.
func TestGiveOfWhatIsFree(t *testing.T) {
	free := []api.Block{{At: 2, Order: 1}, {At: 8, Order: 3}}
	for _, b := range []api.Block{
		{At: 2, Order: 1}, {At: 8, Order: 3}, // one of them
		{At: 2}, {At: 3}, {At: 8}, {At: 15}, {At: 10, Order: 1}, {At: 12, Order: 2}, // a part of one
		{At: 0, Order: 2}, {At: 0, Order: 3}, {At: 0, Order: 4}, // with a part that is free and one that is not
		{At: 0, Order: 5},
	} {
		if left, e := buddy.Give(5, free, b); left != nil || e != api.ErrBuddyBlock {
			t.Errorf("P4.3: Give(5, %v, %v): %v, %d", free, b, left, e)
		}
	}
	for _, b := range inside(8) {
		if left, e := buddy.Give(8, all(t, 8), b); left != nil || e != api.ErrBuddyBlock {
			t.Fatalf("P4.3: Give(8, All, %v): %v, %d", b, left, e)
		}
	}
}

func TestGiveWithoutItsTwin(t *testing.T) {
	for _, x := range []struct {
		free []api.Block
		b    api.Block
		left []api.Block
	}{
		{nil, api.Block{At: 7}, []api.Block{{At: 7}}},
		{nil, api.Block{Order: 3}, []api.Block{{Order: 3}}},
		// What is free beside it is no twin: of the same order, but of another pair.
		{[]api.Block{{At: 1}}, api.Block{At: 2}, []api.Block{{At: 1}, {At: 2}}},
		{[]api.Block{{At: 4, Order: 1}}, api.Block{At: 2, Order: 1}, []api.Block{{At: 2, Order: 1}, {At: 4, Order: 1}}},
		// Of the twin half is free, or it is a part of a greater one's place.
		{[]api.Block{{At: 3}}, api.Block{At: 0, Order: 1}, []api.Block{{At: 0, Order: 1}, {At: 3}}},
		{[]api.Block{{At: 4, Order: 2}}, api.Block{At: 2, Order: 1}, []api.Block{{At: 2, Order: 1}, {At: 4, Order: 2}}},
		// It comes between, ahead of and behind others.
		{[]api.Block{{At: 0}, {At: 6, Order: 1}}, api.Block{At: 3}, []api.Block{{At: 0}, {At: 3}, {At: 6, Order: 1}}},
		{[]api.Block{{At: 4}, {At: 7}}, api.Block{At: 0, Order: 1}, []api.Block{{At: 0, Order: 1}, {At: 4}, {At: 7}}},
		{[]api.Block{{At: 0}, {At: 2}}, api.Block{At: 6}, []api.Block{{At: 0}, {At: 2}, {At: 6}}},
	} {
		left, e := buddy.Give(3, x.free, x.b)
		if !slices.Equal(left, x.left) || e != api.OK {
			t.Errorf("P4.3: Give(3, %v, %v): %v, %d", x.free, x.b, left, e)
		}
	}
}

// Behind one block that comes back several become one, up to the whole region, or up to one that is short of its twin.
func TestGiveOfWhatMakesSeveralOne(t *testing.T) {
	for order := 3; order <= 8; order++ {
		for at := range 1 << order {
			p := fresh(order, true)
			p.put(api.Block{At: at}, false)
			back, e := buddy.Give(order, p.blocks(), api.Block{At: at})
			if !slices.Equal(back, all(t, order)) || e != api.OK {
				t.Fatalf("P4.3: Give(%d, %v, word %d): %v, %d", order, p.blocks(), at, back, e)
			}
			for _, b := range inside(order) {
				p := fresh(order, true)
				p.put(b, false)
				p.put(api.Block{At: at}, false)
				if b.At != at {
					give(t, order, p, p.blocks(), api.Block{At: at})
				}
			}
		}
		if order >= 6 {
			continue
		}
		for _, b := range inside(order) {
			for _, other := range inside(order) {
				p := fresh(order, true)
				p.put(other, false)
				p.put(b, false)
				give(t, order, p, p.blocks(), b)
			}
		}
	}
	back, e := buddy.Give(4, []api.Block{{At: 0}, {At: 2, Order: 1}, {At: 8, Order: 2}}, api.Block{At: 1})
	if !slices.Equal(back, []api.Block{{At: 0, Order: 2}, {At: 8, Order: 2}}) || e != api.OK {
		t.Errorf("P4.3: %v, %d", back, e)
	}
}

// drain takes blocks of these orders, in turn, as long as there is room for one of them.
func drain(t *testing.T, order int, wants []int) []api.Block {
	t.Helper()
	p, free := fresh(order, true), all(t, order)
	var taken []api.Block
	for i := 0; buddy.Room(order, free, slices.Min(wants)); i++ {
		want := wants[i%len(wants)]
		if !buddy.Room(order, free, want) {
			continue
		}
		var b api.Block
		b, free = take(t, order, p, free, want)
		p.put(b, false)
		if p.count() != count(free) {
			t.Fatalf("P4.4: %d words are free, not %d", count(free), p.count())
		}
		taken = append(taken, b)
	}
	return taken
}

func count(free []api.Block) int {
	words := 0
	for _, b := range free {
		words += 1 << b.Order
	}
	return words
}

// giveAll gives these blocks back, in this order, of a region of which nothing else is taken.
func giveAll(t *testing.T, order int, taken []api.Block) {
	t.Helper()
	p := fresh(order, true)
	for _, b := range taken {
		p.put(b, false)
	}
	free := p.blocks()
	for _, b := range taken {
		free = give(t, order, p, free, b)
		p.put(b, true)
	}
	if !slices.Equal(free, all(t, order)) {
		t.Fatalf("P4.4: all is given back in the order %v: %v", taken, free)
	}
}

func TestAllIsTakenAndGivenBack(t *testing.T) {
	d := dice(2)
	for order := 3; order <= 8; order++ {
		for _, wants := range [][]int{{0}, {1}, {2}, {order}, {order - 1}, {0, 1}, {1, 0, 2}, {2, 0, 0, 1, 3}, {order - 1, 0}} {
			taken := drain(t, order, wants)
			giveAll(t, order, taken)
			slices.Reverse(taken)
			giveAll(t, order, taken)
			for range 5 {
				giveAll(t, order, d.mix(taken))
			}
			// Each lower twin ahead of all upper ones, so that none becomes one with its own till half is back.
			slices.SortStableFunc(taken, func(a, b api.Block) int {
				return a.At>>a.Order&1 - b.At>>b.Order&1
			})
			giveAll(t, order, taken)
		}
	}
}

// What was taken and is given back leaves what was there.
func TestGiveTurnsTakeBack(t *testing.T) {
	for value := range 256 {
		free := region(value).blocks()
		for want := range 4 {
			b, left, e := buddy.Take(3, free, want)
			if e != api.OK {
				continue
			}
			if count(left) != count(free)-1<<want {
				t.Errorf("P4.4: Take(3, %v, %d): %v", free, want, left)
			}
			if back, e := buddy.Give(3, left, b); !slices.Equal(back, free) || e != api.OK {
				t.Errorf("P4.4: Give(3, %v, %v): %v, %d, not %v", left, b, back, e, free)
			}
		}
	}
}

// Two blocks that are given back come to the same in either order.
func TestTwoAreGivenInEitherOrder(t *testing.T) {
	for value := range 256 {
		p := region(value)
		free := p.blocks()
		for _, a := range inside(3) {
			for _, b := range inside(3) {
				together := slices.Clone(p)
				if !p.all(a, false) {
					continue
				}
				together.put(a, true)
				if !together.all(b, false) {
					continue
				}
				ab, e := buddy.Give(3, free, a)
				if e == api.OK {
					ab, e = buddy.Give(3, ab, b)
				}
				ba, f := buddy.Give(3, free, b)
				if f == api.OK {
					ba, f = buddy.Give(3, ba, a)
				}
				if !slices.Equal(ab, ba) || e != api.OK || f != api.OK {
					t.Fatalf("P4.4: %v, given %v and %v: %v, %d; %v, %d", free, a, b, ab, e, ba, f)
				}
			}
		}
	}
}

// Blocks are taken and given by the dice, for long, of each region.
func TestManyCalls(t *testing.T) {
	d := dice(4)
	for order := 3; order <= 8; order++ {
		p, free := fresh(order, true), all(t, order)
		var taken []api.Block
		for range 3000 {
			if d.below(2) == 0 {
				want := d.below(d.below(order+1) + 1)
				room := least(free, want) >= 0
				if buddy.Room(order, free, want) != room {
					t.Fatalf("P4.1: Room(%d, %v, %d): %v", order, free, want, !room)
				}
				var b api.Block
				b, free = take(t, order, p, free, want)
				if room {
					p.put(b, false)
					taken = append(taken, b)
				}
			} else if len(taken) > 0 {
				i := d.below(len(taken))
				free = give(t, order, p, free, taken[i])
				p.put(taken[i], true)
				taken = slices.Delete(taken, i, i+1)
			}
			b := api.Block{At: d.below(1<<order+2) - 1, Order: d.below(order+2) - 1}
			if slices.Contains(inside(order), b) {
				give(t, order, p, free, b)
			} else if left, e := buddy.Give(order, free, b); left != nil || e != api.ErrBuddyBlock {
				t.Fatalf("P4.3: Give(%d, %v, %v): %v, %d", order, free, b, left, e)
			}
			if e := buddy.Check(order, free); e != api.OK {
				t.Fatalf("P4.4: Check(%d, %v): %d", order, free, e)
			}
		}
		for _, b := range taken {
			free = give(t, order, p, free, b)
			p.put(b, true)
		}
		if !slices.Equal(free, all(t, order)) {
			t.Errorf("P4.4: all is given back: %v", free)
		}
	}
}

// spare is blocks with room behind them in their array, that holds others.
func spare(blocks ...api.Block) []api.Block {
	whole := append(slices.Clone(blocks), api.Block{At: 91, Order: 91}, api.Block{At: 92, Order: 92}, api.Block{At: 93, Order: 93}, api.Block{At: 94, Order: 94})
	return whole[:len(blocks)]
}

func TestWhatIsHandedInStays(t *testing.T) {
	free := spare(api.Block{At: 0, Order: 1}, api.Block{At: 3}, api.Block{At: 4, Order: 2})
	whole := free[:len(free)+4]
	before := slices.Clone(whole)
	buddy.Check(3, free)
	for want := range 4 {
		buddy.Room(3, free, want)
		buddy.Take(3, free, want)
	}
	for _, b := range append(inside(3), outside(3)...) {
		buddy.Give(3, free, b)
	}
	if !slices.Equal(whole, before) {
		t.Errorf("R2: %v, not %v", whole, before)
	}
}

// What comes out is written over, up to its array's end: neither what was handed in, nor what comes out later, is another one.
func TestWhatComesOutIsNew(t *testing.T) {
	spoil := func(free []api.Block) {
		for i := range free[:cap(free)] {
			free[:cap(free)][i] = api.Block{At: -7, Order: -7}
		}
	}
	spoil(all(t, 3))
	all(t, 3)
	for value := range 256 {
		p := region(value)
		free := p.blocks()
		before := slices.Clone(free)
		for want := range 4 {
			if _, left, e := buddy.Take(3, free, want); e == api.OK {
				_, again, _ := buddy.Take(3, free, want)
				other := slices.Clone(again)
				spoil(left)
				if !slices.Equal(again, other) {
					t.Fatalf("R2: Take(3, %v, %d) shares what came out", free, want)
				}
			}
		}
		for _, b := range inside(3) {
			if left, e := buddy.Give(3, free, b); e == api.OK {
				again, _ := buddy.Give(3, free, b)
				other := slices.Clone(again)
				spoil(left)
				if !slices.Equal(again, other) {
					t.Fatalf("R2: Give(3, %v, %v) shares what came out", free, b)
				}
			}
		}
		if !slices.Equal(free, before) {
			t.Fatalf("R2: what came out shares memory with %v: %v", before, free)
		}
	}
}
