package table_test

import (
	"slices"
	"testing"

	"tumulus/api"
	"tumulus/table"
)

// finds looks that a client's row is this one, and that nothing is changed.
func finds(t *testing.T, s api.State, client int, want api.Row, there bool) {
	t.Helper()
	given := roomy(s)
	before := cloneState(whole(given))
	for range 2 {
		if r, ok := table.Find(given, client); r != want || ok != there {
			t.Errorf("P14.1: Find(%+v, %d): %+v, %v, not %+v, %v", s.Rows, client, r, ok, want, there)
		}
	}
	if !sameState(whole(given), before) {
		t.Errorf("R2: Find(%+v, %d) changed what it was handed: %+v", before, client, given)
	}
}

// TestFind: of rows of each of the clients, and of clients who have none.
func TestFind(t *testing.T) {
	for _, clients := range subsets() {
		s := some(clients...)
		for c := 1; c <= 4; c++ {
			if slices.Contains(clients, c) {
				finds(t, s, c, rowOf(c), true)
			} else {
				finds(t, s, c, api.Row{}, false)
			}
		}
		for _, c := range append(edges, 0, -1, 5, -4, 256+1, 1<<32+2, -76) {
			finds(t, s, c, api.Row{}, false)
		}
	}
	finds(t, fresh(t, 3), 1, api.Row{}, false)
	finds(t, api.State{Rows: []api.Row{}}, 1, api.Row{}, false)
	finds(t, api.State{}, 0, api.Row{}, false)
}

// TestFindTwice: the first of several rows of a client is told, wherever they stand.
func TestFindTwice(t *testing.T) {
	row := func(client, seq int) api.Row {
		return api.Row{Client: client, Seq: seq, Result: api.Result{Code: api.Errno(seq), Value: seq}}
	}
	for _, x := range []struct {
		clients []int
		first   int
	}{
		{[]int{2, 2}, 0},
		{[]int{2, 2, 2, 2}, 0},
		{[]int{2, 1, 2}, 0},
		{[]int{1, 2, 2}, 1},
		{[]int{1, 2, 3, 2, 4}, 1},
		{[]int{1, 3, 2, 2}, 2},
		{[]int{4, 3, 2, 1, 2}, 2},
		{[]int{5, 0, -1, 4, 2, 2, 2}, 4},
	} {
		var s api.State
		for i, c := range x.clients {
			// The newest Seq stands last in one row, first in another one: it is not what counts.
			s.Rows = append(s.Rows, row(c, 10+i))
		}
		finds(t, s, 2, row(2, 10+x.first), true)
		for i, c := range x.clients {
			s.Rows[i] = row(c, 30-i)
		}
		finds(t, s, 2, row(2, 30-x.first), true)
	}
}

// TestFindInWrong: rows that may not be, and do not rise, in no heap, are found as any others.
func TestFindInWrong(t *testing.T) {
	clients := slices.Concat([]int{3, 0, 5, 2, -1, 1, 4, 6}, edges)
	var rows []api.Row
	for i, c := range clients {
		rows = append(rows, api.Row{Client: c, Seq: -i, Result: api.Result{Code: -1, Value: i}})
	}
	for _, h := range []api.Heap{{}, {Order: -1, Next: -1, Objects: make([]api.Object, 3)}, someHeap()} {
		for i, c := range clients {
			finds(t, api.State{Heap: h, Rows: rows}, c, rows[i], true)
			finds(t, api.State{Heap: h, Rows: rows[i:]}, c, rows[i], true)
			finds(t, api.State{Heap: h, Rows: rows[:i]}, c, api.Row{}, false)
			finds(t, api.State{Heap: h, Rows: rows[i+1:]}, c, api.Row{}, false)
		}
		finds(t, api.State{Heap: h, Rows: rows}, 7, api.Row{}, false)
	}
	// A zero row is one of client 0.
	finds(t, api.State{Rows: make([]api.Row, 3)}, 0, api.Row{}, true)
	finds(t, api.State{Rows: make([]api.Row, 3)}, 1, api.Row{}, false)
}

// TestFindInLong: each place of a long list may be the client's.
func TestFindInLong(t *testing.T) {
	s := api.State{Rows: make([]api.Row, 300)}
	for i := range s.Rows {
		want := api.Row{Client: 9, Seq: i}
		s.Rows[i] = want
		finds(t, s, 9, want, true)
		s.Rows[i] = api.Row{Client: -i}
	}
	finds(t, s, 9, api.Row{}, false)
}
