package bag_test

import (
	"math"
	"slices"
	"testing"

	"tumulus/api"
)

func TestPutOfNone(t *testing.T) {
	for count := range 4 {
		p := filledPair(t, 3, count)
		p.put()
		p.put([]api.Message{}...)
		p.put(fulls(1, 5)[:0]...)
	}
}

// TestPut: lists of each length into bags of each room that have each number of messages.
func TestPut(t *testing.T) {
	for room := 1; room <= 5; room++ {
		for count := range room + 1 {
			for length := range 2*room + 3 {
				p := filledPair(t, room, count)
				p.put(fulls(100, length)...)
				if n := p.bag.Len(); n != min(room, count+length) {
					t.Errorf("P12.2: Put of %d into %d of %d: %d", length, count, room, n)
				}
			}
		}
	}
}

// TestPutKeepsTheLast: what is left behind a Put of too many, told without a plain bag.
func TestPutKeepsTheLast(t *testing.T) {
	for _, room := range []int{1, 2, 7, 199, 200} {
		for _, had := range []int{0, 1, room / 2, room - 1, room} {
			for _, length := range []int{0, 1, room - had, room - had + 1, room - 1, room, room + 1, 3*room + 1} {
				b := fresh(t, room)
				b.Put(fulls(1, had))
				b.Put(fulls(had+1, length))
				left := min(room, had+length)
				holds(t, b, fulls(had+length-left+1, left)...)
			}
		}
	}
}

// TestPutOneByOne: as many calls of one message as there is room for, and more.
func TestPutOneByOne(t *testing.T) {
	for _, room := range []int{1, 2, 3, 199, 200} {
		b := fresh(t, room)
		for n := range 2*room + 2 {
			if e := b.Put([]api.Message{full(n + 1)}); e != api.OK {
				t.Fatalf("P12.2: Put: %d", e)
			}
			left := min(room, n+1)
			holds(t, b, fulls(n+2-left, left)...)
		}
	}
}

// TestPutInParts: a list in two calls, or three, leaves what it leaves in one.
func TestPutInParts(t *testing.T) {
	const length = 9
	for room := 1; room <= length+1; room++ {
		for first := range length + 1 {
			for second := first; second <= length; second++ {
				l := fulls(1, length)
				p := newPair(t, room)
				p.put(l[:first]...)
				p.put(l[first:second]...)
				p.put(l[second:]...)
				left := min(room, length)
				holds(t, p.bag, l[length-left:]...)
			}
		}
	}
}

// TestPutKindless: messages of Kind 0 alone, in lists of each length, take no room.
func TestPutKindless(t *testing.T) {
	for room := 1; room <= 4; room++ {
		for count := range room + 1 {
			for length := range 3 * room {
				p := filledPair(t, room, count)
				p.put(kindlesses(length)...)
				holds(t, p.bag, fulls(1, count)...)
			}
		}
	}
	b := fresh(t, 200)
	b.Put(fulls(1, 200))
	b.Put(kindlesses(500))
	holds(t, b, fulls(1, 200)...)
	b.Put([]api.Message{{}})
	holds(t, b, fulls(1, 200)...)
}

// TestPutSomeKindless: each choice of which of six messages have a Kind, so in front, in the middle and at the
// end, into bags with room for all, for some and for none.
func TestPutSomeKindless(t *testing.T) {
	const length = 6
	for choice := range 1 << length {
		var l, counted []api.Message
		for i := range length {
			if choice>>i&1 == 1 {
				l, counted = append(l, full(10+i)), append(counted, full(10+i))
			} else {
				l = append(l, kindless(10+i))
			}
		}
		for room := 1; room <= length+1; room++ {
			for count := range room + 1 {
				p := filledPair(t, room, count)
				p.put(l...)
				want := append(fulls(1, count), counted...)
				holds(t, p.bag, want[max(len(want)-room, 0):]...)
			}
		}
	}
}

// TestPutManyKindless: in lists longer than the room, as many messages as there is room for stay, however many
// of Kind 0 lie around them.
func TestPutManyKindless(t *testing.T) {
	for _, room := range []int{1, 3, 200} {
		counted, none := fulls(1, room), kindlesses(room+1)
		for _, l := range [][]api.Message{
			slices.Concat(none, counted),
			slices.Concat(counted, none),
			slices.Concat(none, counted[:room/2], none, counted[room/2:], none),
		} {
			b := fresh(t, room)
			b.Put([]api.Message{full(999)})
			b.Put(l)
			holds(t, b, counted...)
		}
	}
}

// TestPutOfAnyKind: Kind 0 alone is no message's.
func TestPutOfAnyKind(t *testing.T) {
	kinds := []int{1, 2, 3, 4, 5, 6, 7, 8, 9, 10, 11, -1, -2, 1 << 8, 1 << 16, 1 << 31, 1 << 32, math.MaxInt, math.MinInt}
	p := newPair(t, len(kinds))
	for _, kind := range kinds {
		p.put(api.Message{Kind: api.MsgKind(kind)})
	}
	if n := p.bag.Len(); n != len(kinds) {
		t.Errorf("P12.2: of %d kinds there are %d", len(kinds), n)
	}
	p.put(api.Message{From: 1, To: 2, Data: "a", Ok: true})
	if n := p.bag.Len(); n != len(kinds) {
		t.Errorf("P12.2: of %d kinds there are %d", len(kinds), n)
	}
}

// TestPutTheSameTwice: messages that are the same come each for itself.
func TestPutTheSameTwice(t *testing.T) {
	m := full(1)
	p := newPair(t, 3)
	p.put(m, m)
	p.put(m)
	holds(t, p.bag, m, m, m)
	p.put(full(2))
	holds(t, p.bag, m, m, full(2))
}

// TestPutLong: lists far longer than any room.
func TestPutLong(t *testing.T) {
	var l []api.Message
	for n := range 20000 {
		l = append(l, api.Message{Kind: api.MsgKind(n % 3), Number: n})
	}
	for _, room := range []int{1, 200} {
		p := newPair(t, room)
		p.put(l...)
		p.put(l[:9999]...)
	}
}
