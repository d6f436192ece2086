package table_test

import (
	"math"
	"slices"
	"testing"

	"tumulus/api"
	"tumulus/heap"
)

// told is an operation on someHeap, and its result.
type told struct {
	op   api.Op
	want api.Result
}

func ok(value int) api.Result          { return api.Result{Value: value} }
func fails(code api.Errno) api.Result  { return api.Result{Code: code} }
func kind(k api.OpKind, o api.Op) told { o.Kind = k; return told{o, fails(api.ErrHeapForm)} }

// each is operations of each kind on someHeap, done and refused in each way, and of no kind.
func each() []told {
	return []told{
		{alloc(1, 1), ok(6)}, {alloc(0, 0), ok(6)}, {alloc(3, 0), ok(6)},
		{alloc(7, 0), fails(api.ErrHeapSpace)}, {alloc(32, 16), fails(api.ErrHeapSpace)},
		{alloc(33, 0), fails(api.ErrHeapLarge)}, {alloc(0, 17), fails(api.ErrHeapLarge)}, {alloc(-1, 0), fails(api.ErrHeapLarge)},
		{drop(1), ok(0)}, {drop(3), ok(0)}, {drop(4), ok(0)},
		{drop(2), fails(api.ErrHeapHandle)}, {drop(0), fails(api.ErrHeapHandle)}, {drop(6), fails(api.ErrHeapHandle)},
		{write(1, 0, 99), ok(0)}, {write(1, 1, math.MinInt), ok(0)}, {write(4, 0, 5), ok(0)},
		{write(2, 0, 99), fails(api.ErrHeapHandle)}, {write(1, 2, 99), fails(api.ErrHeapIndex)}, {write(3, 0, 99), fails(api.ErrHeapIndex)},
		{link(1, 0, 3), ok(0)}, {link(4, 1, 0), ok(0)}, {link(4, 0, 4), ok(0)},
		{link(5, 0, 1), fails(api.ErrHeapHandle)}, {link(1, 1, 3), fails(api.ErrHeapIndex)}, {link(1, 0, 2), fails(api.ErrHeapHandle)},
		{root(1, 3), ok(0)}, {root(3, 0), ok(0)},
		{root(4, 3), fails(api.ErrHeapIndex)}, {root(-1, 3), fails(api.ErrHeapIndex)}, {root(0, 2), fails(api.ErrHeapHandle)},
		{read(1, 0), ok(7)}, {read(1, 1), ok(-8)}, {read(4, 0), ok(math.MaxInt)},
		{read(2, 0), fails(api.ErrHeapHandle)}, {read(1, 2), fails(api.ErrHeapIndex)},
		{follow(1, 0), ok(4)}, {follow(4, 0), ok(0)}, {follow(4, 1), ok(4)},
		{follow(6, 0), fails(api.ErrHeapHandle)}, {follow(3, 0), fails(api.ErrHeapIndex)},
		{top(0), ok(1)}, {top(1), ok(0)}, {top(3), ok(4)},
		{top(4), fails(api.ErrHeapIndex)}, {top(-1), fails(api.ErrHeapIndex)},
		kind(0, alloc(1, 1)), kind(0, api.Op{}), kind(9, drop(1)), kind(-1, write(1, 0, 1)), kind(257, alloc(0, 0)),
		kind(math.MaxInt, read(1, 0)), kind(math.MinInt, top(0)), kind(1<<32+1, alloc(0, 0)),
	}
}

// done looks that an entry is done: its operation on the heap, and its client's row, beside the others'.
func done(t *testing.T, s api.State, e api.Entry, want api.Result) api.State {
	t.Helper()
	next, result := apply(t, s, e)
	h, wanted := heap.Do(s.Heap, e.Op)
	if result != want || wanted != want || !sameHeap(next.Heap, h) {
		t.Fatalf("P14.2: Apply(%+v, %+v): %+v, %+v, not %+v, %+v", s, e, next, result, h, want)
	}
	var rows []api.Row
	for c := 1; c <= 4; c++ {
		i := slices.IndexFunc(s.Rows, func(r api.Row) bool { return r.Client == c })
		switch {
		case c == e.Client:
			rows = append(rows, api.Row{Client: c, Seq: e.Seq, Result: want})
		case i >= 0:
			rows = append(rows, s.Rows[i])
		}
	}
	if !slices.Equal(next.Rows, rows) {
		t.Fatalf("P14.2: Apply(%+v, %+v): rows %+v, not %+v", s, e, next.Rows, rows)
	}
	return next
}

// TestEach: each client, with each row of others beside it, asks for what is done and what is refused; then again
// for the same and for others.
func TestEach(t *testing.T) {
	all := each()
	for _, clients := range subsets() {
		s := some(clients...)
		for client := 1; client <= 4; client++ {
			for i, x := range all {
				next := done(t, s, asks(client, 10*client+6+i, x.op), x.want)
				// Of the same Seq any operation is told what came of the first one; of a lower one none is done.
				for _, other := range []api.Op{x.op, {}, all[(i+7)%len(all)].op} {
					stays(t, next, asks(client, 10*client+6+i, other), x.want)
					stays(t, next, asks(client, 10*client+5+i, other), fails(api.ErrTableOld))
					stays(t, next, asks(client, 1, other), fails(api.ErrTableOld))
				}
			}
		}
	}
}

// TestRowsOfEach: each client whose row is not there, of a lower Seq, of the same, of a higher one.
func TestRowsOfEach(t *testing.T) {
	for _, clients := range subsets() {
		s := some(clients...)
		for client := 1; client <= 4; client++ {
			seq := 10*client + 5
			for _, o := range []api.Op{alloc(1, 0), read(2, 0), {}, drop(3)} {
				_, result := heap.Do(s.Heap, o)
				done(t, s, asks(client, seq+1, o), result)
				done(t, s, asks(client, 1000000, o), result)
				if !slices.Contains(clients, client) {
					done(t, s, asks(client, seq, o), result)
					done(t, s, asks(client, 1, o), result)
					continue
				}
				stays(t, s, asks(client, seq, o), rowOf(client).Result)
				stays(t, s, asks(client, seq-1, o), fails(api.ErrTableOld))
				stays(t, s, asks(client, 1, o), fails(api.ErrTableOld))
			}
		}
	}
}

// TestSeqs: what is a newer Seq, and what is none, up to the last one.
func TestSeqs(t *testing.T) {
	seqs := []int{1, 2, 3, 255, 256, 257, 65535, 65536, 999999, 1000000}
	for _, had := range seqs {
		s := some(1, 3, 4)
		s.Rows[1].Seq = had
		for _, seq := range seqs {
			e := asks(3, seq, alloc(2, 0))
			switch {
			case seq > had:
				done(t, s, e, ok(6))
			case seq == had:
				stays(t, s, e, rowOf(3).Result)
			default:
				stays(t, s, e, fails(api.ErrTableOld))
			}
		}
	}
}

// TestResultOfRow: whatever a row's Result is, it is told as it is, a Value beside a Code too.
func TestResultOfRow(t *testing.T) {
	for _, code := range []api.Errno{0, 1, 2, 50, 51, 54, 130, 255, 256, 65534, 65535} {
		for _, value := range append(edges, 0, 1, -1, 7) {
			s := some(1, 2)
			s.Rows[1].Result = api.Result{Code: code, Value: value}
			stays(t, s, asks(2, s.Rows[1].Seq, alloc(0, 0)), api.Result{Code: code, Value: value})
			stays(t, s, asks(2, s.Rows[1].Seq-1, alloc(0, 0)), fails(api.ErrTableOld))
			done(t, s, asks(2, s.Rows[1].Seq+1, alloc(0, 0)), ok(6))
			done(t, s, asks(1, s.Rows[0].Seq+1, alloc(0, 0)), ok(6))
		}
	}
}

// TestNoClient: an entry without a client changes nothing, and tells nothing, in any right state.
func TestNoClient(t *testing.T) {
	for _, clients := range subsets() {
		for _, number := range []int{1, 2, 900000000} {
			for _, view := range []int{0, 1, 900000000} {
				stays(t, some(clients...), bare(number, view), api.Result{})
			}
		}
	}
	for order := 3; order <= 8; order++ {
		stays(t, fresh(t, order), bare(1, 0), api.Result{})
	}
}

// TestNumberAndView: in which place of a log an entry stands, and of which view, plays no part.
func TestNumberAndView(t *testing.T) {
	s := some(2)
	for _, number := range []int{1, 2, 3, 900000000} {
		for _, view := range []int{0, 1, 900000000} {
			e := api.Entry{Number: number, View: view, Client: 2, Seq: 26, Op: alloc(0, 0)}
			done(t, s, e, ok(6))
			e.Seq = 25
			stays(t, s, e, rowOf(2).Result)
			e.Seq = 24
			stays(t, s, e, fails(api.ErrTableOld))
		}
	}
}

// TestFirstInEach: of a new state of each order.
func TestFirstInEach(t *testing.T) {
	for order := 3; order <= 8; order++ {
		s := fresh(t, order)
		for client := 1; client <= 4; client++ {
			done(t, s, asks(client, 1, alloc(2, 1)), ok(1))
			done(t, s, asks(client, 1000000, top(0)), ok(0))
			done(t, s, asks(client, 3, read(1, 0)), fails(api.ErrHeapHandle))
			done(t, s, asks(client, 3, api.Op{}), fails(api.ErrHeapForm))
		}
	}
}

// TestFull: what there is no room for, and no handle for, is told the same later on, when there is.
func TestFull(t *testing.T) {
	s := fresh(t, 3)
	for seq := 1; seq <= 8; seq++ {
		s = done(t, s, asks(2, seq, alloc(0, 0)), ok(seq))
	}
	s = done(t, s, asks(3, 1, alloc(0, 0)), fails(api.ErrHeapSpace))
	s = done(t, s, asks(2, 9, drop(5)), ok(0))
	stays(t, s, asks(3, 1, alloc(0, 0)), fails(api.ErrHeapSpace))
	s = done(t, s, asks(3, 2, alloc(0, 0)), ok(9))
	stays(t, s, asks(2, 9, drop(9)), ok(0))

	s = some(1)
	s.Heap.Next = 1000001
	s = done(t, s, asks(4, 1, alloc(0, 0)), fails(api.ErrLimit))
	stays(t, s, asks(4, 1, alloc(33, 0)), fails(api.ErrLimit))
	done(t, s, asks(4, 2, alloc(33, 0)), fails(api.ErrHeapLarge))
}
