package image_test

import (
	"bytes"
	"math"
	"slices"
	"testing"

	"tumulus/api"
	"tumulus/heap"
	"tumulus/image"
)

// rowsOf are rows of these clients.
func rowsOf(clients ...int) []api.Row {
	var rows []api.Row
	for i, client := range clients {
		row := api.Row{Client: client, Seq: 10 + i, Result: api.Result{Code: api.Errno(i), Value: -i}}
		rows = append(rows, row)
	}
	return rows
}

// putsState looks that a right state is laid as these bytes, read back from them, and stays as it is.
func putsState(t *testing.T, name string, s api.State, want []byte) {
	t.Helper()
	before := cloneState(s)
	if e := image.Check(s); e != api.OK {
		t.Errorf("P6.3: %s: Check(%+v): %d", name, s, e)
	}
	b, e := image.PutState(s)
	if e != api.OK || !bytes.Equal(b, want) {
		t.Errorf("P6.3: %s: PutState(%+v): % x, %d, not % x", name, s, b, e, want)
	}
	if !sameState(s, before) {
		t.Errorf("R2: %s: %+v became %+v", name, before, s)
	}
	if x, e := image.GetState(want); e != api.OK || !sameState(x, before) {
		t.Errorf("P6.3: %s: GetState(% x): %+v, %d, not %+v", name, want, x, e, before)
	}
}

// readsState looks by the plain reader what GetState makes of bytes: a right state that is laid as the
// same bytes, or nothing. It tells which.
func readsState(t *testing.T, name string, b []byte) bool {
	t.Helper()
	before := slices.Clone(b)
	want, right := plainGetState(b)
	wanted := api.ErrImageForm
	if right {
		wanted = api.OK
	}
	s, e := image.GetState(b)
	if e != wanted || !sameState(s, want) {
		t.Fatalf("P6.3: %s: GetState(% x): %+v, %d, not %+v, %d", name, b, s, e, want, wanted)
	}
	if !bytes.Equal(b, before) {
		t.Fatalf("R2: %s: GetState wrote into % x", name, before)
	}
	if again, e := image.PutState(s); right && (e != api.OK || !bytes.Equal(again, before)) {
		t.Fatalf("P6.4: %s: % x laid anew: % x, %d", name, before, again, e)
	}
	return right
}

// noState looks that bytes are no right state's.
func noState(t *testing.T, name string, b []byte) {
	t.Helper()
	s, e := image.GetState(b)
	if e != api.ErrImageForm || !sameState(s, api.State{}) {
		t.Errorf("P6.3, R1: %s: GetState(% x): %+v, %d", name, b, s, e)
	}
}

// noRows looks that there is no state of these rows.
func noRows(t *testing.T, name string, rows ...api.Row) {
	t.Helper()
	s := api.State{Heap: some(), Rows: rows}
	before := cloneState(s)
	if e := image.Check(s); e != api.ErrImageForm {
		t.Errorf("P6.3: %s: Check of %+v: %d", name, rows, e)
	}
	if b, e := image.PutState(s); b != nil || e != api.ErrImageForm {
		t.Errorf("P6.3, R1: %s: PutState of %+v: % x, %d", name, rows, b, e)
	}
	if !sameState(s, before) {
		t.Errorf("R2: %s: %+v became %+v", name, before, s)
	}
	noState(t, name, plainState(s))
}

func TestStateBytes(t *testing.T) {
	s := api.State{Heap: fresh(t, 3)}
	s.Rows = []api.Row{{Client: 2, Seq: 258, Result: api.Result{Code: 50, Value: 0}}, {Client: 4, Seq: 1, Result: api.Result{Value: -2}}}
	putsState(t, "two rows", s, []byte{
		0, 0, 0, 28,
		0, 0, 0, 3, 0, 0, 0, 1,
		0, 0, 0, 0, 0, 0, 0, 0, 0, 0, 0, 0, 0, 0, 0, 0,
		0, 0, 0, 0,
		0, 0, 0, 2,
		0, 0, 0, 2, 0, 0, 1, 2, 0, 0, 0, 50, 0, 0, 0, 0, 0, 0, 0, 0,
		0, 0, 0, 4, 0, 0, 0, 1, 0, 0, 0, 0, 255, 255, 255, 255, 255, 255, 255, 254,
	})
}

// TestRows: all rows that may be, in one state.
func TestRows(t *testing.T) {
	for _, clients := range [][]int{nil, {1}, {2}, {3}, {4}, {1, 2}, {1, 3}, {1, 4}, {2, 3}, {2, 4}, {3, 4}, {1, 2, 3}, {1, 2, 4}, {1, 3, 4}, {2, 3, 4}, {1, 2, 3, 4}} {
		s := api.State{Heap: some(), Rows: rowsOf(clients...)}
		putsState(t, "rows", s, plainState(s))
	}
	for _, seq := range []int{1, 2, 255, 256, 65536, 999999, 1000000} {
		for _, code := range []api.Errno{0, 1, 50, 255, 256, 65534, 65535} {
			for _, value := range anyInts {
				s := api.State{Heap: fresh(t, 3), Rows: []api.Row{{Client: 1, Seq: 7}, {Client: 3, Seq: seq, Result: api.Result{Code: code, Value: value}}}}
				putsState(t, "a row's numbers", s, plainState(s))
			}
		}
	}
}

func TestBrokenRows(t *testing.T) {
	row := func(client, seq int, code api.Errno) api.Row {
		return api.Row{Client: client, Seq: seq, Result: api.Result{Code: code, Value: 5}}
	}
	right := row(2, 1, 0)
	for _, n := range []int{0, 5, -1, 6, 255, 256, 258, 2147483647, 1 << 31, math.MaxInt, math.MinInt} {
		noRows(t, "a client that is none", row(n, 1, 0))
		noRows(t, "a client that is none, ahead", row(n, 1, 0), right)
		noRows(t, "a client that is none, behind", right, row(n, 1, 0))
	}
	for _, n := range []int{0, 1000001, -1, 1000002, 2147483647, 1 << 31, math.MaxInt, math.MinInt} {
		noRows(t, "a Seq that is none", row(1, n, 0))
		noRows(t, "a Seq that is none, ahead", row(1, n, 0), right)
		noRows(t, "a Seq that is none, behind", right, row(3, n, 0))
	}
	for _, n := range []api.Errno{-1, 65536, -65535, 65537, 2147483647, 1 << 31, math.MaxInt, math.MinInt} {
		noRows(t, "a Code that is none", row(1, 1, n))
		noRows(t, "a Code that is none, ahead", row(1, 1, n), right)
		noRows(t, "a Code that is none, behind", right, row(3, 1, n))
	}
	for _, clients := range [][]int{{1, 1}, {4, 4}, {2, 1}, {4, 1}, {4, 3}, {1, 2, 2}, {1, 3, 2}, {3, 1, 2}, {2, 2, 3}, {4, 3, 2, 1}, {1, 2, 3, 3}, {1, 2, 3, 4, 4}, {1, 2, 3, 4, 5}, {1, 1, 2, 3, 4}, {1, 2, 3, 4, 1}, {0, 1, 2, 3, 4}} {
		noRows(t, "rows that do not rise", rowsOf(clients...)...)
	}
	noRows(t, "four zero rows", make([]api.Row, 4)...)
	noRows(t, "many rows", make([]api.Row, 1000)...)
}

// TestBrokenRowBytes: numbers that an int of four bytes would take for right ones.
func TestBrokenRowBytes(t *testing.T) {
	laid := text(plainHeap(some()))
	for i := range 3 {
		for _, n := range []int{1<<31 + 1, 1<<32 - 1} {
			row := []int{1, 1, 1}
			row[i] = n
			noState(t, "no number", slices.Concat(laid, numbers(1), numbers(row...), ints(0)))
		}
	}
}

func TestStates(t *testing.T) {
	for name, h := range rightHeaps(t) {
		for _, rows := range [][]api.Row{nil, {}, rowsOf(3), rowsOf(1, 2, 3, 4)} {
			s := api.State{Heap: h, Rows: rows}
			b := plainState(s)
			putsState(t, name, s, b)
			for n := range len(b) {
				noState(t, name+", a beginning", b[:n])
			}
			for _, more := range []byte{0, 1, 255} {
				noState(t, name+", one more", append(slices.Clip(b), more))
			}
			noState(t, name+", one ahead", slices.Concat([]byte{0}, b))
		}
	}
	noState(t, "no bytes", nil)
	noState(t, "no bytes", []byte{})
	if e := image.Check(api.State{}); e != api.ErrImageForm {
		t.Errorf("P6.3: Check(zero): %d", e)
	}
	if b, e := image.PutState(api.State{}); b != nil || e != api.ErrImageForm {
		t.Errorf("P6.3, R1: PutState(zero): % x, %d", b, e)
	}
}

// TestStateWalk: whatever operations make is laid and read, with what came of them.
func TestStateWalk(t *testing.T) {
	for order := 3; order <= 8; order++ {
		d := dice(80 + order)
		s := api.State{Heap: fresh(t, order), Rows: rowsOf(1, 2, 3, 4)}
		for range 200 {
			row := &s.Rows[d.below(4)]
			row.Seq++
			s.Heap, row.Result = heap.Do(s.Heap, anyOp(&d, s.Heap))
			putsState(t, "a walk", s, plainState(s))
		}
	}
}

// TestStateTurned: each byte is turned into each other one; what is read then is right.
func TestStateTurned(t *testing.T) {
	read := 0
	for _, s := range []api.State{{Heap: some(), Rows: rowsOf(1, 2, 4)}, {Heap: fresh(t, 3)}, {Heap: full(t, 3, 0, 0), Rows: rowsOf(2)}} {
		b := plainState(s)
		for i := range b {
			for turn := 1; turn < 256; turn++ {
				b[i] ^= byte(turn)
				if readsState(t, "turned", b) {
					read++
				}
				b[i] ^= byte(turn)
			}
		}
	}
	if read < 5000 {
		t.Errorf("P6.4: only %d of the turned states were read", read)
	}
}

// TestStateTexts: a text that is longer or shorter than the heap's bytes, or than what is there.
func TestStateTexts(t *testing.T) {
	h := plainHeap(some())
	rows := plainRows(rowsOf(1, 2)...)
	for _, n := range []int{0, 1, 27, 28, len(h) - 1, len(h) + 1, len(h) + 4, len(h) + len(rows), len(h) + len(rows) + 1, 65536, 65537, 2147483647, 1 << 31, 1<<32 - 1} {
		b := slices.Concat(numbers(n), h, rows)
		noState(t, "a text of another length", b)
		readsState(t, "a text of another length", b)
	}
	noState(t, "a text with one byte more", slices.Concat(text(append(slices.Clip(h), 0)), rows))
	noState(t, "a text with one byte less", slices.Concat(text(h[:len(h)-1]), rows))
	noState(t, "no text", slices.Concat(text(nil), rows))
	noState(t, "the heap alone", h)
	noState(t, "the heap, and rows", slices.Concat(h, rows))
	noState(t, "the heap as a text, no rows", text(h))
	for _, n := range []int{65536, 65537, 100000} {
		noState(t, "the longest text", slices.Concat(text(append(slices.Clip(h), make([]byte, n-len(h))...)), rows))
	}
}

// TestRowCounts: counts of rows that are not those that are there.
func TestRowCounts(t *testing.T) {
	laid := text(plainHeap(some()))
	rows := plainRows(rowsOf(1, 2)...)[4:]
	for _, n := range []int{0, 1, 3, 4, 5, 6, 255, 256, 65536, 16777218, 2147483646, 2147483647, 1 << 31, 1<<31 + 2, 1<<32 - 1} {
		b := slices.Concat(laid, numbers(n), rows)
		noState(t, "a count that is wrong", b)
		readsState(t, "a count that is wrong", b)
		noState(t, "rows, and none there", slices.Concat(laid, numbers(max(n, 1))))
	}
}

// TestStateAnyBytes: numbers anywhere changed by a little, and parts of states put together.
func TestStateAnyBytes(t *testing.T) {
	d := dice(90)
	laid := plainState(api.State{Heap: some(), Rows: rowsOf(1, 2, 4)})
	for range 20000 {
		b := slices.Clone(laid)
		for range 1 + d.below(2) {
			at := 4*d.below(len(b)/4) + 3
			b[at] += byte(pick(&d, -4, -2, -1, 1, 2, 4))
		}
		readsState(t, "numbers changed", b)
		from, to := 4*d.below(len(laid)/4), 4*d.below(len(laid)/4)
		readsState(t, "parts", slices.Concat(laid[:from], laid[to:]))
		loose := make([]byte, d.below(80))
		for i := range loose {
			loose[i] = byte(pick(&d, 0, 0, 0, 1, 3, 4, 28, d.below(256)))
		}
		readsState(t, "any bytes", loose)
	}
}

// TestStateMemory: answers are new, and share no memory with what was handed in.
func TestStateMemory(t *testing.T) {
	for name, h := range rightHeaps(t) {
		s := api.State{Heap: h, Rows: rowsOf(1, 2, 4)}
		want := plainState(s)
		mine := cloneState(s)
		first, _ := image.PutState(mine)
		second, _ := image.PutState(mine)
		spoilState(mine)
		clear(first[:cap(first)])
		if !bytes.Equal(second, want) {
			t.Errorf("R2: %s: PutState's answers share memory", name)
		}
		room := append(slices.Clone(want), 9, 9, 9, 9, 9, 9, 9, 9)
		this, _ := image.GetState(room[:len(want)])
		other, _ := image.GetState(room[:len(want)])
		if !bytes.Equal(room[:len(want)], want) || !bytes.Equal(room[len(want):], bytes.Repeat([]byte{9}, 8)) {
			t.Errorf("R2: %s: GetState wrote into what was handed in", name)
		}
		clear(room)
		if !sameState(this, s) {
			t.Errorf("R2: %s: GetState keeps what was handed in: %+v", name, this)
		}
		if !spoilState(this) || !sameState(other, s) {
			t.Errorf("R2: %s: the lists of GetState's answers share memory: %+v", name, other)
		}
	}
	rows := append(rowsOf(1, 2, 3), api.Row{Client: -9}, api.Row{Client: -8})
	before := slices.Clone(rows)
	s := api.State{Heap: some(), Rows: rows[1:2]}
	putsState(t, "rows among others", s, plainState(s))
	if !slices.Equal(rows, before) {
		t.Errorf("R2: rows beside those that were handed in were written: %+v", rows)
	}
}

// spoilState writes over all the memory of a state's lists, as spoilHeap does.
func spoilState(s api.State) bool {
	rows := s.Rows[:cap(s.Rows)]
	for i := range rows {
		rows[i] = api.Row{Client: -79}
	}
	return spoilHeap(s.Heap)
}
