package bag_test

import (
	"strings"
	"testing"

	"tumulus/api"
	"tumulus/bag"
)

// drawnMessage has something in some fields, and seldom no Kind.
func drawnMessage(d *dice) api.Message {
	m := fullWith(d.below(1000), d.below(4))
	m.Kind = api.MsgKind(d.below(12))
	if d.below(4) == 0 {
		m = api.Message{Kind: m.Kind, Number: d.below(5)}
	}
	if d.below(10) == 0 {
		m.Kind = api.MsgKind(numbers()[d.below(len(numbers()))])
	}
	if d.below(10) == 0 {
		m.Data = strings.Repeat("\xff", d.below(100))
	}
	return m
}

// drawnList is mostly shorter than the room, and seldom longer.
func drawnList(d *dice, room int) []api.Message {
	length := d.below(3)
	if d.below(6) == 0 {
		length = d.below(2*room + 3)
	}
	var l []api.Message
	for range length {
		l = append(l, drawnMessage(d))
	}
	return l
}

// drawnPlace is mostly one that there is.
func drawnPlace(d *dice, p *pair) int {
	if d.below(8) == 0 {
		wrong := noPlaces(p.bag.Len())
		return wrong[d.below(len(wrong))]
	}
	return d.below(p.bag.Len() + 1)
}

// step asks one call that is drawn of a pair.
func step(d *dice, p *pair) {
	p.t.Helper()
	switch d.below(6) {
	case 0, 1:
		p.put(drawnList(d, p.plain.room)...)
	case 2:
		p.double(drawnPlace(d, p))
	default:
		p.take(drawnPlace(d, p))
	}
}

// TestWalk: long rows of calls that are drawn answer as the plain bag does, on bags of each kind of room.
func TestWalk(t *testing.T) {
	for _, x := range []struct{ room, calls int }{{1, 10000}, {2, 10000}, {3, 10000}, {7, 8000}, {50, 2000}} {
		d := dice(x.room)
		p := newPair(t, x.room)
		full := 0
		for range x.calls {
			step(&d, p)
			if p.bag.Len() == x.room {
				full++
			}
		}
		if full < x.calls/50 || full > x.calls*49/50 {
			t.Errorf("what is drawn is one-sided: full %d of %d times", full, x.calls)
		}
	}
}

// TestWalkWide: the greatest bags, that are full now and then.
func TestWalkWide(t *testing.T) {
	for _, room := range []int{199, 200} {
		d := dice(room)
		p := newPair(t, room)
		for range 40 {
			p.put(fulls(d.below(1000), d.below(room))...)
			for range d.below(20) {
				step(&d, p)
			}
		}
	}
}

// moves are calls, right ones and wrong ones, on a bag with room for two.
func moves() []func(*pair) {
	return []func(*pair){
		func(p *pair) { p.put() },
		func(p *pair) { p.put(full(1)) },
		func(p *pair) { p.put(full(2), full(3)) },
		func(p *pair) { p.put(kindless(4), full(5), kindless(6), full(7), full(8)) },
		func(p *pair) { p.put(kindless(9)) },
		func(p *pair) { p.take(0) },
		func(p *pair) { p.take(1) },
		func(p *pair) { p.take(-1) },
		func(p *pair) { p.double(0) },
		func(p *pair) { p.double(1) },
		func(p *pair) { p.double(2) },
	}
}

// TestAllRows: each row of four of those calls, on bags with room for one to three.
func TestAllRows(t *testing.T) {
	const length = 4
	all := moves()
	rows := 1
	for range length {
		rows *= len(all)
	}
	for room := 1; room <= 3; room++ {
		for row := range rows {
			p := newPair(t, room)
			for range length {
				all[row%len(all)](p)
				row /= len(all)
			}
		}
	}
}

// TestAnything: nothing panics, whatever comes in, of a bag that New did not make too.
func TestAnything(t *testing.T) {
	lists := [][]api.Message{nil, {}, {{}}, make([]api.Message, 5000), {full(1)}, fulls(1, 201), {fullWith(1, 4097)}, {{Kind: -1, Data: strings.Repeat("\x00", 1<<20)}}}
	for _, room := range numbers() {
		b, e := bag.New(room)
		if (e == api.OK) != (room >= 1 && room <= 200) {
			t.Errorf("P12.1: New(%d): %d", room, e)
		}
		for _, b := range []*bag.Bag{b, nil, {}, new(bag.Bag)} {
			for _, l := range lists {
				b.Put(l)
				for _, i := range numbers() {
					b.Double(i)
					b.All()
					b.Take(i)
					b.Len()
				}
			}
		}
	}
	for _, a := range lists {
		for _, b := range lists {
			if len(a) > 0 && len(b) > 0 && bag.Same(a[0], b[0]) != alike(a[0], b[0]) {
				t.Errorf("P12.1: Same of %+v and %+v", a[0], b[0])
			}
		}
	}
}
