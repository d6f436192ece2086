package bag_test

import (
	"slices"
	"testing"

	"tumulus/api"
)

// TestTake: each place of bags with each number of messages, full or with room.
func TestTake(t *testing.T) {
	for count := range 8 {
		for i := range count {
			for _, room := range []int{count, count + 3} {
				p := filledPair(t, room, count)
				if m := p.take(i); !alike(m, full(i+1)) {
					t.Errorf("P12.2: Take(%d) of %d: %+v", i, count, m)
				}
				holds(t, p.bag, slices.Delete(fulls(1, count), i, i+1)...)
				p.put(fulls(50, 4)...)
			}
		}
	}
}

// TestTakeOfMany: each place of the greatest bag.
func TestTakeOfMany(t *testing.T) {
	for _, room := range []int{199, 200} {
		for i := range room {
			b := fresh(t, room)
			b.Put(fulls(1, room))
			if m, e := b.Take(i); !alike(m, full(i+1)) || e != api.OK {
				t.Fatalf("P12.2: Take(%d) of %d: %+v, %d", i, room, m, e)
			}
			holds(t, b, slices.Delete(fulls(1, room), i, i+1)...)
		}
	}
}

func TestTakeInNoPlace(t *testing.T) {
	for _, room := range []int{1, 2, 5, 200} {
		for _, count := range []int{0, 1, room - 1, room} {
			p := filledPair(t, room, count)
			for _, i := range noPlaces(count) {
				if i >= 0 && i < count {
					continue
				}
				m, e := p.bag.Take(i)
				if !reflectEqual(m, api.Message{}) || e != api.ErrBagPlace {
					t.Errorf("P12.2, R1: Take(%d) of %d: %+v, %d", i, count, m, e)
				}
				p.same()
			}
		}
	}
}

// TestTakeAll: until none is left, in each order of places that four messages have; then there is room again.
func TestTakeAll(t *testing.T) {
	const count = 4
	for order := range 4 * 3 * 2 {
		p := filledPair(t, count, count)
		rest := order
		for left := count; left > 0; left-- {
			p.take(rest % left)
			rest /= left
		}
		holds(t, p.bag)
		p.take(0)
		p.double(0)
		p.put(fulls(10, count)...)
		holds(t, p.bag, fulls(10, count)...)
	}
}

// TestTakeMakesRoom: behind a Take from a full bag, the next Put pushes none out.
func TestTakeMakesRoom(t *testing.T) {
	for _, room := range []int{1, 2, 5, 200} {
		for _, i := range []int{0, room / 2, room - 1} {
			b := fresh(t, room)
			b.Put(fulls(1, room))
			b.Take(i)
			b.Put([]api.Message{full(500)})
			holds(t, b, append(slices.Delete(fulls(1, room), i, i+1), full(500))...)
			b.Put([]api.Message{full(501)})
			want := append(slices.Delete(fulls(1, room), i, i+1), full(500), full(501))
			holds(t, b, want[1:]...)
		}
	}
}

// TestTakenWasPut: P12.3, with doubles and with some that are gone: what is taken is one that was put, with all
// its fields.
func TestTakenWasPut(t *testing.T) {
	for _, room := range []int{1, 2, 5, 40} {
		d := dice(room)
		b := fresh(t, room)
		put := map[int]api.Message{}
		taken := 0
		for n := 1; n < 4000; n++ {
			switch d.below(4) {
			case 0:
				b.Double(d.below(room))
			case 1:
				m, e := b.Take(d.below(room))
				if e != api.OK {
					continue
				}
				if was, is := put[m.Seq]; !is || !alike(m, was) {
					t.Fatalf("P12.3: %+v was taken, %+v put", m, was)
				}
				taken++
			default:
				m := fullWith(n, d.below(4))
				m.Seq = n
				put[n] = m
				b.Put([]api.Message{copied(m)})
			}
		}
		if taken < 200 {
			t.Errorf("only %d were taken", taken)
		}
	}
}

// TestTakeInPlaceNought: P12.3: in the order of putting; none comes that is gone, and none is left out that is
// not.
func TestTakeInPlaceNought(t *testing.T) {
	for _, room := range []int{1, 2, 3, 8, 200} {
		d := dice(room)
		b := fresh(t, room)
		next, out := 1, 1
		for range 2000 {
			if d.below(2) == 0 {
				count := d.below(room + 2)
				b.Put(fulls(next, count))
				next += count
				out = max(out, next-room)
				continue
			}
			for range d.below(room + 2) {
				m, e := b.Take(0)
				if out == next {
					if e != api.ErrBagPlace {
						t.Fatalf("P12.2: Take(0) of none: %+v, %d", m, e)
					}
					break
				}
				if !alike(m, full(out)) || e != api.OK {
					t.Fatalf("P12.3: Take(0): %+v, %d, not the one put as number %d", m, e, out)
				}
				out++
			}
		}
	}
}
