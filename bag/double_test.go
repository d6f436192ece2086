package bag_test

import (
	"testing"

	"tumulus/api"
)

// TestDouble: each place of bags with each number of messages, that have room.
func TestDouble(t *testing.T) {
	for count := range 8 {
		for i := range count {
			for _, spare := range []int{1, 2, 5} {
				p := filledPair(t, count+spare, count)
				p.double(i)
				holds(t, p.bag, append(fulls(1, count), full(i+1))...)
				p.put(fulls(50, 4)...)
			}
		}
	}
}

// TestDoubleInFull: each place of full bags: the one in front is gone, also where it is the one that is doubled.
func TestDoubleInFull(t *testing.T) {
	for _, room := range []int{1, 2, 3, 7, 199, 200} {
		for i := range room {
			b := fresh(t, room)
			b.Put(fulls(1, room))
			if e := b.Double(i); e != api.OK {
				t.Fatalf("P12.2: Double(%d) of %d: %d", i, room, e)
			}
			holds(t, b, append(fulls(1, room), full(i+1))[1:]...)
		}
	}
}

// TestDoubleInRoomForOne: the message stays, however often it is doubled.
func TestDoubleInRoomForOne(t *testing.T) {
	p := filledPair(t, 1, 1)
	for range 5 {
		p.double(0)
		holds(t, p.bag, full(1))
	}
	p.double(1)
	p.take(0)
	p.double(0)
	holds(t, p.bag)
}

// TestDoubleUntilFull: one more each time, till there is no more room; then those in front go.
func TestDoubleUntilFull(t *testing.T) {
	for room := 1; room <= 6; room++ {
		p := newPair(t, room)
		p.put(full(1))
		for n := 1; n < room; n++ {
			p.double(n - 1)
			if p.bag.Len() != n+1 {
				t.Errorf("P12.2: %d behind %d doubles", p.bag.Len(), n)
			}
		}
		p.put(full(2))
		for range 2 * room {
			p.double(0)
			p.double(room - 1)
			if p.bag.Len() != room {
				t.Errorf("P12.2: %d of %d", p.bag.Len(), room)
			}
		}
	}
}

func TestDoubleInNoPlace(t *testing.T) {
	for _, room := range []int{1, 2, 5, 200} {
		for _, count := range []int{0, 1, room - 1, room} {
			p := filledPair(t, room, count)
			for _, i := range noPlaces(count) {
				if i >= 0 && i < count {
					continue
				}
				if e := p.bag.Double(i); e != api.ErrBagPlace {
					t.Errorf("P12.2: Double(%d) of %d: %d", i, count, e)
				}
				p.same()
			}
		}
	}
}

// TestDoubledTaken: each of the two may be taken, in either order, and the other one stays.
func TestDoubledTaken(t *testing.T) {
	for count := 1; count <= 4; count++ {
		for i := range count {
			for _, first := range []int{i, count} {
				p := filledPair(t, count+1, count)
				p.double(i)
				if m := p.take(first); !alike(m, full(i+1)) {
					t.Errorf("P12.2: Take(%d) behind Double(%d): %+v", first, i, m)
				}
				other := count - 1
				if first == count {
					other = i
				}
				if m := p.take(other); !alike(m, full(i+1)) {
					t.Errorf("P12.2: Take(%d) behind Double(%d): %+v", other, i, m)
				}
			}
		}
	}
}

// TestDoubleOfEmptyLists: a message without entries and data is doubled as any other one.
func TestDoubleOfEmptyLists(t *testing.T) {
	p := newPair(t, 3)
	p.put(api.Message{Kind: 1}, api.Message{Kind: 2, Entries: []api.Entry{}})
	p.double(0)
	p.double(1)
	p.double(2)
}
