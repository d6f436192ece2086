package bag_test

import (
	"math"
	"reflect"
	"slices"
	"testing"

	"tumulus/api"
	"tumulus/bag"
)

// told looks what Same tells of two messages, either way round, and that it changes neither.
func told(t *testing.T, what string, a, b api.Message, want bool) {
	t.Helper()
	one, two := copied(a), copied(b)
	if bag.Same(a, b) != want || bag.Same(b, a) != want {
		t.Errorf("P12.1: Same, %s: %v, %v of %+v and %+v", what, bag.Same(a, b), bag.Same(b, a), a, b)
	}
	if !reflectEqual(a, one) || !reflectEqual(b, two) {
		t.Errorf("R2: Same changed what it was handed: %+v, %+v", a, b)
	}
}

func TestSame(t *testing.T) {
	for _, m := range []api.Message{{}, {Kind: 1}, full(1), full(2), kindless(3), fullWith(4, 0), fullWith(5, 1), fullWith(6, 4000)} {
		told(t, "of one message", m, m, true)
		told(t, "of a message and a copy", m, copied(m), true)
	}
}

// otherInts are numbers that are not n.
func otherInts(n int64) []int64 {
	l := []int64{n + 1, n - 1, -n, ^n, 0, 1, n + 1<<8, n + 1<<16, n ^ 1<<31, n + 1<<32, n ^ 1<<62, math.MaxInt64, math.MinInt64}
	return slices.DeleteFunc(l, func(x int64) bool { return x == n })
}

// otherTexts are texts that are not s.
func otherTexts(s string) []string {
	l := []string{"", "x", "\x00", s + "x", s + "\x00", "x" + s, s + s, s[:len(s)/2], s[len(s)/2:]}
	for i := range s {
		b := []byte(s)
		b[i] ^= 0x80
		l = append(l, string(b))
	}
	return slices.DeleteFunc(l, func(x string) bool { return x == s })
}

// others are values of a leaf's type that it has not.
func others(leaf reflect.Value) []reflect.Value {
	var l []reflect.Value
	switch leaf.Kind() {
	case reflect.Bool:
		l = append(l, reflect.ValueOf(!leaf.Bool()))
	case reflect.String:
		for _, x := range otherTexts(leaf.String()) {
			l = append(l, reflect.ValueOf(x))
		}
	default:
		for _, x := range otherInts(leaf.Int()) {
			l = append(l, reflect.ValueOf(x))
		}
	}
	return l
}

// TestSameInAllButOneField: each field of a message, of its structs, and of each element of its list and of what
// that holds; of messages that have something in each field, and of ones that have nothing in it.
func TestSameInAllButOneField(t *testing.T) {
	for _, entries := range []int{0, 1, 2, 3, 5} {
		for _, m := range []api.Message{fullWith(7, entries), {Entries: make([]api.Entry, entries)}} {
			other := copied(m)
			for i, leaf := range leavesOf(&other) {
				was := reflect.ValueOf(leaf.Interface())
				for _, x := range others(leaf) {
					leaf.Set(x.Convert(leaf.Type()))
					if bag.Same(m, other) || bag.Same(other, m) {
						t.Errorf("P12.1: Same with %d entries, leaf %d %v, not %v", entries, i, x, was)
					}
				}
				leaf.Set(was)
			}
			told(t, "with all fields set back", m, other, true)
		}
	}
}

// TestSameFields: that what the other tests call all fields are all.
func TestSameFields(t *testing.T) {
	m := api.Message{Entries: make([]api.Entry, 1)}
	if n := len(leavesOf(&m)); n != 13+7+2+11 {
		t.Errorf("a message with one entry has %d leaves", n)
	}
}

// TestSameInOtherFields: two fields whose numbers change places.
func TestSameInOtherFields(t *testing.T) {
	m := fullWith(3, 2)
	other := copied(m)
	all := leavesOf(&other)
	for i, one := range all {
		for _, two := range all[i+1:] {
			if one.Kind() != reflect.Int || two.Kind() != reflect.Int {
				continue
			}
			a, b := one.Int(), two.Int()
			one.SetInt(b)
			two.SetInt(a)
			told(t, "with two numbers changed about", m, other, false)
			one.SetInt(a)
			two.SetInt(b)
		}
	}
	told(t, "with all numbers back", m, other, true)
}

// TestSameOfUnlikeLists: lists of which one begins the other, in memory of their own, and in the same one.
func TestSameOfUnlikeLists(t *testing.T) {
	for _, whole := range [][]api.Entry{fullWith(1, 6).Entries, make([]api.Entry, 6)} {
		for a := range 7 {
			for b := range 7 {
				one, two := api.Message{Kind: 1}, api.Message{Kind: 1}
				one.Entries, two.Entries = whole[:a], whole[:b]
				told(t, "of the beginnings of a list", one, two, a == b)
				told(t, "of the beginnings of two lists", one, copied(two), a == b)
				one.Entries, two.Entries = whole[6-a:], whole[6-b:]
				told(t, "of the ends of a list", one, two, a == b)
			}
		}
	}
}

// TestSameOfNoElements: a list without elements is as none, whatever room it has.
func TestSameOfNoElements(t *testing.T) {
	for _, m := range []api.Message{{}, fullWith(1, 0)} {
		lists := [][]api.Entry{nil, {}, make([]api.Entry, 0, 5), full(1).Entries[:0], full(2).Entries[3:]}
		for _, a := range lists {
			for _, b := range lists {
				one, two := m, m
				one.Entries, two.Entries = a, b
				told(t, "of lists without elements", one, two, true)
				two.Entries = make([]api.Entry, 1)
				told(t, "of a list without elements, and one with one", one, two, false)
			}
		}
	}
}

// TestSameInAnotherOrder: the same elements in another order make another list.
func TestSameInAnotherOrder(t *testing.T) {
	for _, entries := range []int{2, 3, 6} {
		m := fullWith(9, entries)
		for i := range entries {
			for k := range i {
				other := copied(m)
				other.Entries[i], other.Entries[k] = other.Entries[k], other.Entries[i]
				told(t, "with two elements changed about", m, other, false)
			}
		}
		other := copied(m)
		slices.Reverse(other.Entries)
		told(t, "from behind", m, other, false)
		other = copied(m)
		other.Entries = append(other.Entries[1:], other.Entries[0])
		told(t, "with the first element behind the last one", m, other, false)
	}
	m := fullWith(9, 1)
	m.Entries = append(m.Entries, m.Entries...)
	told(t, "with two elements that are the same", m, copied(m), true)
}

// scarce is a message of which most fields are as in any other such one.
func scarce(d *dice, entries int) api.Message {
	m := fullWith(1, entries)
	for range d.below(3) {
		all := leavesOf(&m)
		leaf := all[d.below(len(all))]
		rest := others(leaf)
		leaf.Set(rest[d.below(min(2, len(rest)))].Convert(leaf.Type()))
	}
	return m
}

// TestSameWalk: of drawn messages Same tells what the library's look into both tells.
func TestSameWalk(t *testing.T) {
	d := dice(3)
	count := map[bool]int{}
	for range 60000 {
		entries := d.below(4)
		a, b := scarce(&d, entries), scarce(&d, entries+d.below(30)/29)
		want := alike(a, b)
		count[want]++
		told(t, "of drawn messages", a, b, want)
	}
	if count[true] < 3000 || count[false] < 3000 {
		t.Errorf("what is drawn is one-sided: %v", count)
	}
}
