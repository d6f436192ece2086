package table_test

import (
	"testing"

	"tumulus/api"
)

// onceOnly looks that behind an entry of a client's, that was done or told with this Result, the same one and each
// one of no greater Seq change nothing.
func onceOnly(t *testing.T, s api.State, e api.Entry, told api.Result) {
	t.Helper()
	stays(t, s, e, told)
	late := e
	late.Number, late.View = 900000000, 900000000
	stays(t, s, late, told)
	for _, o := range []api.Op{alloc(0, 0), root(0, 0), {}} {
		late.Op = o
		stays(t, s, late, told)
	}
	for _, seq := range []int{1, e.Seq / 2, e.Seq - 1} {
		if seq < 1 || seq >= e.Seq {
			continue
		}
		late.Seq = seq
		for _, o := range []api.Op{e.Op, alloc(0, 0), {}} {
			late.Op = o
			stays(t, s, late, fails(api.ErrTableOld))
		}
	}
}

// TestOnce: each client's each operation, behind which it comes again, at once and behind other clients' entries.
func TestOnce(t *testing.T) {
	for _, clients := range [][]int{nil, {1}, {2, 3}, {4}, {1, 2, 3, 4}} {
		for client := 1; client <= 4; client++ {
			for _, x := range each() {
				e := asks(client, 10*client+6, x.op)
				s := done(t, some(clients...), e, x.want)
				onceOnly(t, s, e, x.want)
				for other := 1; other <= 4; other++ {
					if other != client {
						s, _ = apply(t, s, asks(other, 99, alloc(0, 0)))
						s, _ = apply(t, s, bare(7, 7))
					}
				}
				onceOnly(t, s, e, x.want)
			}
		}
	}
}

// TestSeqsOnce: of all entries of Seqs up to one that was done none changes anything; the next one does.
func TestSeqsOnce(t *testing.T) {
	s := fresh(t, 6)
	for seq := 1; seq <= 40; seq++ {
		e := asks(3, seq, alloc(0, 0))
		s = done(t, s, e, ok(seq))
		for late := 1; late < seq; late++ {
			stays(t, s, asks(3, late, alloc(0, 0)), fails(api.ErrTableOld))
		}
		stays(t, s, e, ok(seq))
	}
}

// TestLogTwice: a log that comes twice, as a whole or from any place on, makes what it makes once.
func TestLogTwice(t *testing.T) {
	for order := 3; order <= 8; order++ {
		d := dice(order)
		s := fresh(t, order)
		var log []api.Entry
		var results []api.Result
		for range 120 {
			e := drawnEntry(&d, s)
			next, result := apply(t, s, e)
			if result.Code == api.ErrArg {
				continue
			}
			log, results = append(log, e), append(results, result)
			s = next
		}
		for _, from := range []int{0, 1, len(log) / 2, len(log) - 1} {
			for i, e := range log[from:] {
				next, result := apply(t, s, e)
				if !sameState(next, s) {
					t.Fatalf("P14.3: %+v, that came again, changed %+v to %+v", e, s, next)
				}
				newest := true
				for _, later := range log[from+i+1:] {
					newest = newest && (later.Client != e.Client || later.Seq <= e.Seq)
				}
				if newest && result != results[from+i] {
					t.Fatalf("P14.3: the newest of a client, %+v, is told %+v, not %+v", e, result, results[from+i])
				}
			}
		}
	}
}

// TestOrdersOfClients: whatever the order in which clients come first, their rows rise in the end, one of each.
func TestOrdersOfClients(t *testing.T) {
	for _, order := range permutations([]int{1, 2, 3, 4}) {
		s := fresh(t, 4)
		for i, client := range order {
			s = done(t, s, asks(client, 3+i, alloc(0, 0)), ok(i+1))
			for _, before := range order[:i] {
				s = done(t, s, asks(before, s.Rows[place(s, before)].Seq+1, top(0)), ok(0))
			}
		}
		for i, r := range s.Rows {
			if r.Client != i+1 {
				t.Errorf("P14.3: %v came, rows %+v", order, s.Rows)
			}
		}
		if len(s.Rows) != 4 {
			t.Errorf("P14.3: %v came, rows %+v", order, s.Rows)
		}
	}
}

// place is where a client's row stands.
func place(s api.State, client int) int {
	for i, r := range s.Rows {
		if r.Client == client {
			return i
		}
	}
	return -1
}

// permutations are a list in all its orders.
func permutations(l []int) [][]int {
	if len(l) == 0 {
		return [][]int{nil}
	}
	var all [][]int
	for i, first := range l {
		var rest []int
		rest = append(rest, l[:i]...)
		rest = append(rest, l[i+1:]...)
		for _, p := range permutations(rest) {
			all = append(all, append([]int{first}, p...))
		}
	}
	return all
}
