package views_test

import (
	"math"
	"testing"

	"tumulus/api"
	"tumulus/views"
)

func TestExamples(t *testing.T) {
	for _, x := range []struct{ nodes, view, want int }{{3, 0, 1}, {3, 5, 3}, {4, 0, 0}} {
		if n := views.Primary(x.nodes, x.view); n != x.want {
			t.Errorf("P13.1: Primary(%d, %d): %d", x.nodes, x.view, n)
		}
	}
	for _, x := range []struct{ nodes, view, id, want int }{{3, 0, 1, 3}, {3, 0, 2, 1}, {3, 900000000, 1, -1}} {
		if n := views.Next(x.nodes, x.view, x.id); n != x.want {
			t.Errorf("P13.1: Next(%d, %d, %d): %d", x.nodes, x.view, x.id, n)
		}
	}
	for _, x := range []struct {
		l    []int
		want bool
	}{{[]int{1, 1}, false}, {[]int{3, 1}, true}, {[]int{3, 4}, false}} {
		if is := enough(t, 3, x.l); is != x.want {
			t.Errorf("P13.2: Enough(3, %v): %v", x.l, is)
		}
	}
	for _, x := range []struct {
		nodes, own int
		acks       []api.Acked
		want       int
	}{
		{3, 5, []api.Acked{{Node: 2, Number: 3}}, 3},
		{3, 5, nil, 0},
		{5, 5, []api.Acked{{Node: 2, Number: 4}, {Node: 3, Number: 2}}, 2},
	} {
		if n := sure(t, x.nodes, x.own, x.acks); n != x.want {
			t.Errorf("P13.2: Sure(%d, %d, %v): %d", x.nodes, x.own, x.acks, n)
		}
	}
	if i := best(t, []api.Vote{{Normal: 1, Number: 9}, {Normal: 2, Number: 3}, {Normal: 2, Number: 3}}); i != 1 {
		t.Errorf("P13.3: Best: %d", i)
	}
}

func TestNodes(t *testing.T) {
	want := map[int]bool{3: true, 5: true, 7: true}
	for n := -1; n <= 9; n++ {
		if is := views.Nodes(n); is != want[n] {
			t.Errorf("P13.1: Nodes(%d): %v", n, is)
		}
	}
	for n := -2000; n <= 2000; n++ {
		if is := views.Nodes(n); is != want[n] {
			t.Errorf("P13.1: Nodes(%d): %v", n, is)
		}
	}
	for _, n := range noClusters {
		if views.Nodes(n) {
			t.Errorf("P13.1: Nodes(%d): true", n)
		}
	}
	if views.Nodes(math.MaxInt) || views.Nodes(math.MinInt) {
		t.Error("P13.1: Nodes of the greatest int, or of the least: true")
	}
}

func TestPrimary(t *testing.T) {
	for _, x := range []struct{ nodes, view, want int }{
		{3, 0, 1}, {3, 1, 2}, {3, 2, 3}, {3, 3, 1}, {3, 4, 2},
		{5, 0, 1}, {5, 1, 2}, {5, 4, 5}, {5, 5, 1}, {5, 6, 2},
		{7, 0, 1}, {7, 1, 2}, {7, 6, 7}, {7, 7, 1}, {7, 8, 2},
		{3, 899999999, 3}, {3, 900000000, 1},
		{5, 899999999, 5}, {5, 900000000, 1},
		{7, 899999999, 4}, {7, 900000000, 5},
	} {
		if id := views.Primary(x.nodes, x.view); id != x.want {
			t.Errorf("P13.1: Primary(%d, %d): %d", x.nodes, x.view, id)
		}
	}
}

// TestPrimaryInTurn: from view to view the nodes take turns, in front, in the middle and at the end.
func TestPrimaryInTurn(t *testing.T) {
	for _, nodes := range clusters {
		for _, from := range []int{0, 105 * 1000, maxView / 105 * 105} {
			for view := from; view <= min(from+1000, maxView); view++ {
				if id := views.Primary(nodes, view); id != 1+(view-from)%nodes {
					t.Fatalf("P13.1: Primary(%d, %d): %d", nodes, view, id)
				}
			}
		}
	}
}

func TestPrimaryWrong(t *testing.T) {
	for _, nodes := range noClusters {
		for _, view := range append([]int{0, 1, 5, 899999999, 900000000}, noViews...) {
			if id := views.Primary(nodes, view); id != 0 {
				t.Errorf("P13.1: Primary(%d, %d): %d", nodes, view, id)
			}
		}
	}
	for _, nodes := range clusters {
		for _, view := range noViews {
			if id := views.Primary(nodes, view); id != 0 {
				t.Errorf("P13.1: Primary(%d, %d): %d", nodes, view, id)
			}
		}
	}
}

// TestNextInFront: each node at the views 0 to 20, beside the views that a node is primary in, one by one.
func TestNextInFront(t *testing.T) {
	turns := map[int][][]int{
		3: {{0, 3, 6, 9, 12, 15, 18, 21}, {1, 4, 7, 10, 13, 16, 19, 22}, {2, 5, 8, 11, 14, 17, 20, 23}},
		5: {{0, 5, 10, 15, 20, 25}, {1, 6, 11, 16, 21}, {2, 7, 12, 17, 22}, {3, 8, 13, 18, 23}, {4, 9, 14, 19, 24}},
		7: {{0, 7, 14, 21}, {1, 8, 15, 22}, {2, 9, 16, 23}, {3, 10, 17, 24}, {4, 11, 18, 25}, {5, 12, 19, 26}, {6, 13, 20, 27}},
	}
	for nodes, rows := range turns {
		for i, row := range rows {
			for view := 0; view <= 20; view++ {
				want := 0
				for row[want] <= view {
					want++
				}
				if next := views.Next(nodes, view, i+1); next != row[want] {
					t.Errorf("P13.1: Next(%d, %d, %d): %d, not %d", nodes, view, i+1, next, row[want])
				}
			}
		}
	}
}

// TestNextAtEnd: each node at the last views, of which some are behind the last one that the node is primary in.
func TestNextAtEnd(t *testing.T) {
	last := map[int][]int{
		3: {900000000, 899999998, 899999999},
		5: {900000000, 899999996, 899999997, 899999998, 899999999},
		7: {899999996, 899999997, 899999998, 899999999, 900000000, 899999994, 899999995},
	}
	for nodes, lasts := range last {
		for i, end := range lasts {
			for view := 899999985; view <= 900000000; view++ {
				want := -1
				for turn := end; turn > view; turn -= nodes {
					want = turn
				}
				if next := views.Next(nodes, view, i+1); next != want {
					t.Errorf("P13.1: Next(%d, %d, %d): %d, not %d", nodes, view, i+1, next, want)
				}
			}
		}
	}
}

func TestNextWrong(t *testing.T) {
	none := func(nodes, view, id int) {
		t.Helper()
		if next := views.Next(nodes, view, id); next != -1 {
			t.Errorf("P13.1: Next(%d, %d, %d): %d", nodes, view, id, next)
		}
	}
	for _, nodes := range clusters {
		for id := 1; id <= nodes; id++ {
			for _, view := range noViews {
				none(nodes, view, id)
			}
		}
		for _, id := range noNodes(nodes) {
			for _, view := range append([]int{0, 1, 2, 3, 20, 899999999, 900000000}, noViews...) {
				none(nodes, view, id)
			}
		}
	}
	for _, nodes := range noClusters {
		for _, view := range append([]int{0, 1, 20, 899999999, 900000000}, noViews...) {
			for _, id := range append([]int{1, 2, 3, nodes}, noNodes(nodes)...) {
				none(nodes, view, id)
			}
		}
	}
}
