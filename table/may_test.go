package table_test

import (
	"math"
	"slices"
	"testing"

	"tumulus/api"
	"tumulus/table"
)

// may looks whether an entry may be, and that Apply does nothing with one that may not.
func may(t *testing.T, e api.Entry, want bool) {
	t.Helper()
	if is := table.May(e); is != want {
		t.Errorf("P14.1: May(%+v): %v", e, is)
	}
	if is := plainMay(e); is != want {
		t.Errorf("the plain reading of %+v: %v", e, is)
	}
	s, result := table.Apply(api.State{Heap: someHeap(), Rows: []api.Row{rowOf(2)}}, e)
	if refused := result == (api.Result{Code: api.ErrArg}) && sameState(s, api.State{}); refused == want {
		t.Errorf("P14.2: Apply of %+v: %+v, %+v", e, s, result)
	}
}

// opsOfOne are operations of which one field alone is not 0.
func opsOfOne() []api.Op {
	var all []api.Op
	for _, n := range append(edges, 1, -1, 2, 9, 256) {
		all = append(all, api.Op{Kind: api.OpKind(n)}, api.Op{H: n}, api.Op{I: n}, api.Op{N: n}, api.Op{K: n}, api.Op{V: n}, api.Op{T: n})
	}
	return all
}

// within are numbers with whether they are from least to most.
func within(least, most int) map[int]bool {
	all := map[int]bool{}
	for _, n := range append(edges, -1, 0, 1, 2, 3, 4, 5, 999999, 1000000, 1000001, 899999999, 900000000, 900000001, -900000000, 1<<32+900000000) {
		all[n] = least <= n && n <= most
	}
	return all
}

func TestMayNumber(t *testing.T) {
	for n, ok := range within(1, 900000000) {
		may(t, api.Entry{Number: n}, ok)
		may(t, api.Entry{Number: n, View: 3, Client: 2, Seq: 5, Op: read(1, 1)}, ok)
		may(t, api.Entry{Number: n, View: -1}, false)
		may(t, api.Entry{Number: n, Client: 5, Seq: 5}, false)
	}
}

func TestMayView(t *testing.T) {
	for n, ok := range within(0, 900000000) {
		may(t, api.Entry{Number: 1, View: n}, ok)
		may(t, api.Entry{Number: 900000000, View: n, Client: 4, Seq: 1000000, Op: drop(1)}, ok)
		may(t, api.Entry{Number: 0, View: n}, false)
		may(t, api.Entry{Number: 1, View: n, Client: 1}, false)
	}
}

// TestMayClient: each client with each Seq, with and without an operation.
func TestMayClient(t *testing.T) {
	for client, known := range within(1, 4) {
		for seq, counted := range within(1, 1000000) {
			none := client == 0 && seq == 0
			for _, o := range []api.Op{{}, alloc(1, 1), {Kind: 99}, {Kind: -1, T: math.MinInt}} {
				may(t, api.Entry{Number: 7, Client: client, Seq: seq, Op: o}, known && counted || none && o == api.Op{})
			}
			may(t, api.Entry{Number: 0, Client: client, Seq: seq}, false)
			may(t, api.Entry{Number: 1, View: -1, Client: client, Seq: seq}, false)
		}
	}
}

// TestMayOp: without a client there is no operation, not even one field of it; with one there may be any.
func TestMayOp(t *testing.T) {
	for _, o := range opsOfOne() {
		may(t, api.Entry{Number: 1, Op: o}, false)
		may(t, api.Entry{Number: 900000000, View: 900000000, Op: o}, false)
		may(t, api.Entry{Number: 1, Client: 1, Op: o}, false)
		may(t, api.Entry{Number: 1, Seq: 1, Op: o}, false)
		for client := 1; client <= 4; client++ {
			may(t, api.Entry{Number: 1, Client: client, Seq: 1, Op: o}, true)
		}
	}
	may(t, api.Entry{}, false)
	may(t, api.Entry{Number: 1}, true)
	may(t, api.Entry{Number: 900000000, View: 900000000}, true)
	may(t, api.Entry{Number: 900000001, View: 900000001}, false)
}

// TestMayOfEdges: the edges of all numbers of an entry together.
func TestMayOfEdges(t *testing.T) {
	numbers := []int{math.MinInt, -1, 0, 1, 4, 5, 1000000, 1000001, 900000000, 900000001, math.MaxInt}
	count := map[bool]int{}
	for _, number := range numbers {
		for _, view := range numbers {
			for _, client := range numbers {
				for _, seq := range numbers {
					e := api.Entry{Number: number, View: view, Client: client, Seq: seq}
					ok := number >= 1 && number <= 900000000 && view >= 0 && view <= 900000000
					ok = ok && (client == 0 && seq == 0 || slices.Contains([]int{1, 4}, client) && seq >= 1 && seq <= 1000000)
					if is := table.May(e); is != ok {
						t.Errorf("P14.1: May(%+v): %v", e, is)
					}
					count[ok]++
				}
			}
		}
	}
	if count[true] < 200 || count[false] < 10000 {
		t.Errorf("the numbers are one-sided: %v", count)
	}
}
