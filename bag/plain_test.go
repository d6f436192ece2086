package bag_test

import (
	"math"
	"reflect"
	"slices"
	"strconv"
	"strings"
	"testing"

	"tumulus/api"
	"tumulus/bag"
)

// plain is a bag told by the document's words alone: messages come one by one, and of one too many the one in
// front is gone.
type plain struct {
	room int
	list []api.Message
}

func (p *plain) lay(m api.Message) {
	p.list = append(p.list, copied(m))
	if len(p.list) > p.room {
		p.list = p.list[1:]
	}
}

func (p *plain) put(l []api.Message) {
	for _, m := range l {
		if m.Kind != 0 {
			p.lay(m)
		}
	}
}

func (p *plain) take(i int) (api.Message, api.Errno) {
	var rest []api.Message
	var taken api.Message
	e := api.ErrBagPlace
	for at, m := range p.list {
		if at == i {
			taken, e = m, api.OK
		} else {
			rest = append(rest, m)
		}
	}
	p.list = rest
	return taken, e
}

func (p *plain) double(i int) api.Errno {
	for at, m := range p.list {
		if at == i {
			p.lay(m)
			return api.OK
		}
	}
	return api.ErrBagPlace
}

// pair is a bag and a plain one, of which the same is asked.
type pair struct {
	t     *testing.T
	bag   *bag.Bag
	plain *plain
}

func newPair(t *testing.T, room int) *pair {
	t.Helper()
	p := &pair{t, fresh(t, room), &plain{room: room}}
	p.same()
	return p
}

// filledPair is a pair with room for so many, that has the messages full(1) to full(count).
func filledPair(t *testing.T, room, count int) *pair {
	t.Helper()
	p := newPair(t, room)
	p.put(fulls(1, count)...)
	return p
}

// same looks that the bag has the plain one's messages.
func (p *pair) same() {
	p.t.Helper()
	holds(p.t, p.bag, p.plain.list...)
}

func (p *pair) put(l ...api.Message) {
	p.t.Helper()
	before := copies(l)
	if e := p.bag.Put(l); e != api.OK {
		p.t.Fatalf("P12.2: Put of %d: %d", len(l), e)
	}
	if !slices.EqualFunc(l, before, reflectEqual) {
		p.t.Fatalf("R2: Put of %d changed what it was handed", len(l))
	}
	p.plain.put(l)
	p.same()
}

func (p *pair) take(i int) api.Message {
	p.t.Helper()
	m, e := p.bag.Take(i)
	if want, as := p.plain.take(i); !alike(m, want) || e != as {
		p.t.Fatalf("P12.2: Take(%d): %+v, %d, not %+v, %d", i, m, e, want, as)
	}
	if e != api.OK && !reflectEqual(m, api.Message{}) {
		p.t.Fatalf("R1: Take(%d): %+v, %d", i, m, e)
	}
	p.same()
	return m
}

func (p *pair) double(i int) {
	p.t.Helper()
	if e, want := p.bag.Double(i), p.plain.double(i); e != want {
		p.t.Fatalf("P12.2: Double(%d): %d, not %d", i, e, want)
	}
	p.same()
}

func fresh(t *testing.T, room int) *bag.Bag {
	t.Helper()
	b, e := bag.New(room)
	if b == nil || e != api.OK {
		t.Fatalf("P12.1: New(%d): %v, %d", room, b, e)
	}
	return b
}

// holds looks that a bag has these messages, and no others.
func holds(t *testing.T, b *bag.Bag, want ...api.Message) {
	t.Helper()
	all := b.All()
	if len(all) != len(want) || b.Len() != len(want) {
		t.Fatalf("P12.1: All has %d, Len is %d, not %d", len(all), b.Len(), len(want))
	}
	for i, m := range all {
		if !alike(m, want[i]) {
			t.Fatalf("P12.1: in place %d of %d: %+v, not %+v", i, len(all), m, want[i])
		}
	}
}

func reflectEqual(a, b api.Message) bool {
	return reflect.DeepEqual(a, b)
}

// alike tells what Same tells, by the library's look into both.
func alike(a, b api.Message) bool {
	if len(a.Entries) == 0 {
		a.Entries = nil
	}
	if len(b.Entries) == 0 {
		b.Entries = nil
	}
	return reflectEqual(a, b)
}

func copied(m api.Message) api.Message {
	m.Entries = slices.Clone(m.Entries)
	m.Data = strings.Clone(m.Data)
	return m
}

func copies(l []api.Message) []api.Message {
	l = slices.Clone(l)
	for i, m := range l {
		l[i] = copied(m)
	}
	return l
}

// leaves are all the numbers, texts and bools of a value, within its structs and lists too.
func leaves(v reflect.Value) []reflect.Value {
	var found []reflect.Value
	switch v.Kind() {
	case reflect.Struct:
		for i := range v.NumField() {
			found = append(found, leaves(v.Field(i))...)
		}
	case reflect.Slice:
		for i := range v.Len() {
			found = append(found, leaves(v.Index(i))...)
		}
	default:
		found = append(found, v)
	}
	return found
}

// leavesOf are a message's leaves, that may be set.
func leavesOf(m *api.Message) []reflect.Value {
	return leaves(reflect.ValueOf(m).Elem())
}

// fullWith is a message with so many entries, each of whose fields has something that no other one has.
func fullWith(n, entries int) api.Message {
	m := api.Message{Entries: make([]api.Entry, entries)}
	for i, leaf := range leavesOf(&m) {
		switch leaf.Kind() {
		case reflect.String:
			leaf.SetString("data " + strconv.Itoa(n))
		case reflect.Bool:
			leaf.SetBool(true)
		default:
			leaf.SetInt(int64(n*1000 + i + 1))
		}
	}
	return m
}

// made is each full message that was asked for: most tests ask for many of the same.
var made = map[int]api.Message{}

func full(n int) api.Message {
	if _, is := made[n]; !is {
		made[n] = fullWith(n, 3)
	}
	return copied(made[n])
}

func fulls(from, count int) []api.Message {
	var l []api.Message
	for n := range count {
		l = append(l, full(from+n))
	}
	return l
}

// kindless is full(n), but for its Kind.
func kindless(n int) api.Message {
	m := full(n)
	m.Kind = 0
	return m
}

func kindlesses(count int) []api.Message {
	var l []api.Message
	for n := range count {
		l = append(l, kindless(n))
	}
	return l
}

// numbers are ordinary ones, and those at edges.
func numbers() []int {
	return []int{0, 1, 2, 3, -1, -2, -3, 199, 200, 201, -200, 1 << 31, 1 << 32, -1 << 31, -1 << 32, math.MaxInt, math.MaxInt - 1, math.MinInt, math.MinInt + 1}
}

// noPlaces are places that no bag with so many messages has.
func noPlaces(count int) []int {
	return []int{count, count + 1, -1, -2, -count, -count - 1, 200, 201, 1<<32 + count, 1 << 32, math.MaxInt, math.MaxInt - 1, math.MinInt, math.MinInt + 1}
}

// dice is a row of numbers by a rule.
type dice uint64

func (d *dice) below(n int) int {
	*d = *d*6364136223846793005 + 1442695040888963407
	return int(uint64(*d) >> 33 % uint64(n))
}
