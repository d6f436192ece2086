package bag_test

import (
	"math"
	"testing"

	"tumulus/api"
	"tumulus/bag"
)

func TestExample(t *testing.T) {
	one := func(n int) api.Message { return api.Message{Kind: 1, Number: n} }
	b := fresh(t, 2)
	if e := b.Put([]api.Message{one(1), one(2)}); e != api.OK {
		t.Errorf("P12.2: Put(1 2): %d", e)
	}
	if e := b.Double(0); e != api.OK {
		t.Errorf("P12.2: Double(0): %d", e)
	}
	holds(t, b, one(2), one(1))
	if m, e := b.Take(1); !alike(m, one(1)) || e != api.OK {
		t.Errorf("P12.2: Take(1): %+v, %d", m, e)
	}
	if m, e := b.Take(1); !reflectEqual(m, api.Message{}) || e != api.ErrBagPlace {
		t.Errorf("P12.2: Take(1): %+v, %d", m, e)
	}
	if n := b.Len(); n != 1 {
		t.Errorf("P12.1: Len: %d", n)
	}
	if e := b.Put([]api.Message{one(5), {Number: 6}}); e != api.OK {
		t.Errorf("P12.2: Put(5, and one of Kind 0): %d", e)
	}
	holds(t, b, one(2), one(5))
}

func TestNew(t *testing.T) {
	for _, room := range []int{1, 2, 199, 200} {
		p := newPair(t, room)
		p.put(fulls(1, room)...)
		if n := p.bag.Len(); n != room {
			t.Errorf("P12.1: New(%d) has room for %d", room, n)
		}
		p.put(full(500))
		if n := p.bag.Len(); n != room {
			t.Errorf("P12.1: New(%d) has room for %d", room, n)
		}
	}
}

func TestNewOfEachRoom(t *testing.T) {
	for room := 1; room <= 200; room++ {
		b := fresh(t, room)
		b.Put(fulls(1, 201))
		holds(t, b, fulls(202-room, room)...)
	}
}

func TestNewWrong(t *testing.T) {
	for _, room := range []int{0, -1, -2, -200, 201, 202, 1000, 1<<32 + 1, -1<<32 + 1, math.MaxInt, math.MinInt, math.MinInt + 1} {
		if b, e := bag.New(room); b != nil || e != api.ErrArg {
			t.Errorf("P12.1, R1: New(%d): %v, %d", room, b, e)
		}
	}
}

// TestLenAndAll: of a new bag, and behind each other call, that answers OK or not.
func TestLenAndAll(t *testing.T) {
	b := fresh(t, 3)
	holds(t, b)
	one, two, three, four := full(1), full(2), full(3), full(4)
	b.Take(0)
	holds(t, b)
	b.Double(0)
	holds(t, b)
	b.Put(nil)
	holds(t, b)
	b.Put([]api.Message{one, two})
	holds(t, b, one, two)
	b.Double(0)
	holds(t, b, one, two, one)
	b.Double(3)
	holds(t, b, one, two, one)
	b.Take(1)
	holds(t, b, one, one)
	b.Take(-1)
	holds(t, b, one, one)
	b.Put([]api.Message{three, four})
	holds(t, b, one, three, four)
	b.Double(2)
	holds(t, b, three, four, four)
	b.Put([]api.Message{kindless(5)})
	holds(t, b, three, four, four)
	for range 3 {
		b.Take(0)
	}
	holds(t, b)
}

// TestAllAskedAgain: All and Len change nothing.
func TestAllAskedAgain(t *testing.T) {
	p := filledPair(t, 5, 5)
	for range 10 {
		p.same()
	}
	p.take(2)
	p.same()
	p.same()
}

func TestNoBag(t *testing.T) {
	var b *bag.Bag
	for _, l := range [][]api.Message{nil, {}, {full(1)}, {kindless(1)}, fulls(1, 201)} {
		if e := b.Put(l); e != api.ErrNil {
			t.Errorf("R3: Put of %d into no bag: %d", len(l), e)
		}
	}
	for _, i := range numbers() {
		if m, e := b.Take(i); !reflectEqual(m, api.Message{}) || e != api.ErrNil {
			t.Errorf("R3, R1: Take(%d) of no bag: %+v, %d", i, m, e)
		}
		if e := b.Double(i); e != api.ErrNil {
			t.Errorf("R3: Double(%d) of no bag: %d", i, e)
		}
	}
	if l := b.All(); len(l) != 0 {
		t.Errorf("P12.1: All of no bag: %+v", l)
	}
	if n := b.Len(); n != 0 {
		t.Errorf("P12.1: Len of no bag: %d", n)
	}
}

// TestErrorsChangeNothing: a call that fails, in a bag with any number of messages, leaves it as it was, in what
// later calls answer too.
func TestErrorsChangeNothing(t *testing.T) {
	for count := range 6 {
		p := filledPair(t, 5, count)
		for _, i := range noPlaces(count) {
			p.take(i)
			p.double(i)
		}
		p.put(full(10))
		p.double(0)
		for range 7 {
			p.take(0)
		}
	}
}

// TestTwoBags: what is put into one bag, taken from it or doubled in it changes no other one.
func TestTwoBags(t *testing.T) {
	d := dice(12)
	one, two := newPair(t, 3), newPair(t, 4)
	for range 3000 {
		step(&d, one)
		two.same()
		step(&d, two)
		one.same()
	}
}

// TestFromBagToBag: what came out of one bag may be put into another one, or into the same one.
func TestFromBagToBag(t *testing.T) {
	one, two := filledPair(t, 4, 4), newPair(t, 3)
	two.put(one.bag.All()...)
	one.put(one.bag.All()...)
	m := two.take(1)
	one.put(m, m)
	two.put(m)
	spoil(&m)
	one.same()
	two.same()
	one.put(two.bag.All()...)
	for range 4 {
		one.take(0)
		two.same()
	}
}
