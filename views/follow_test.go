package views_test

import (
	"slices"
	"testing"

	"tumulus/api"
	"tumulus/views"
)

// TestEnoughMeet: two rows of nodes that are enough have one in common; of a set and all others at most one is.
func TestEnoughMeet(t *testing.T) {
	for _, nodes := range clusters {
		all := 1<<nodes - 1
		var sets []int
		for set := range all + 1 {
			if enough(t, nodes, members(set)) {
				sets = append(sets, set)
			}
			if enough(t, nodes, members(set)) == enough(t, nodes, members(all&^set)) {
				t.Errorf("P13.4: of %d nodes %v and all others: both are enough, or none", nodes, members(set))
			}
		}
		for _, a := range sets {
			for _, b := range sets {
				if a&b == 0 {
					t.Errorf("P13.4: of %d nodes %v and %v are enough", nodes, members(a), members(b))
				}
			}
		}
		if len(sets) != 1<<(nodes-1) {
			t.Errorf("P13.4: of %d nodes %d sets are enough", nodes, len(sets))
		}
	}
}

// TestPrimaryOnce: each node is primary once in as many views as there are nodes, wherever they begin.
func TestPrimaryOnce(t *testing.T) {
	for _, nodes := range clusters {
		for _, from := range []int{0, 1, 2, 100, 12345678, maxView/2 - 50, maxView - 100} {
			for begin := from; begin <= min(from+100, maxView-nodes+1); begin++ {
				times := map[int]int{}
				for view := begin; view < begin+nodes; view++ {
					times[views.Primary(nodes, view)]++
				}
				for id := 1; id <= nodes; id++ {
					if times[id] != 1 {
						t.Fatalf("P13.4: in %d views from %d on node %d is primary %d times", nodes, begin, id, times[id])
					}
				}
			}
		}
	}
}

// TestNextIsPrimary: a node is primary in the view that Next tells, and in none between.
func TestNextIsPrimary(t *testing.T) {
	for _, nodes := range clusters {
		for _, from := range []int{0, 1000, 12345678, maxView - 30} {
			for view := from; view <= min(from+60, maxView); view++ {
				for id := 1; id <= nodes; id++ {
					next := views.Next(nodes, view, id)
					end := next
					if next == -1 {
						end = maxView + 1
					} else if views.Primary(nodes, next) != id {
						t.Fatalf("P13.1: Next(%d, %d, %d): %d, whose primary is another one", nodes, view, id, next)
					}
					if end <= view || end > view+nodes {
						t.Fatalf("P13.1: Next(%d, %d, %d): %d", nodes, view, id, next)
					}
					for between := view + 1; between < end; between++ {
						if views.Primary(nodes, between) == id {
							t.Fatalf("P13.1: Next(%d, %d, %d): %d, behind %d", nodes, view, id, next, between)
						}
					}
				}
			}
		}
	}
}

// having are the nodes that have n: own, that is node id's, and those of others that told it.
func having(id, own int, acks []api.Acked, n int) []int {
	var l []int
	if own >= n {
		l = append(l, id)
	}
	for _, a := range acks {
		if a.Number >= n {
			l = append(l, a.Node)
		}
	}
	return l
}

// TestSureIsHad: what is Sure, enough nodes have; what is above it, fewer have.
func TestSureIsHad(t *testing.T) {
	d := dice(4)
	times := map[bool]int{}
	for range 40000 {
		nodes := of(&d, clusters)
		id := 1 + d.below(nodes)
		own := d.below(8)
		var acks []api.Acked
		for range d.below(2 * nodes) {
			if from := 1 + d.below(nodes); from != id {
				acks = append(acks, api.Acked{Node: from, Number: d.below(8)})
			}
		}
		n := sure(t, nodes, own, acks)
		times[n > 0]++
		if n > 0 && !enough(t, nodes, having(id, own, acks, n)) {
			t.Fatalf("P13.4: node %d of %d has %d, told was %v: %d is Sure", id, nodes, own, acks, n)
		}
		for above := n + 1; above <= 9; above++ {
			if enough(t, nodes, having(id, own, acks, above)) {
				t.Fatalf("P13.2: node %d of %d has %d, told was %v: %d is Sure, not %d", id, nodes, own, acks, n, above)
			}
		}
	}
	if times[true] < 5000 || times[false] < 5000 {
		t.Errorf("what is drawn is one-sided: %v", times)
	}
}

// TestSureIsTold: what is Sure is own, what somebody told, or 0; nothing that is told takes it back.
func TestSureIsTold(t *testing.T) {
	d := dice(5)
	for range 2000 {
		nodes := of(&d, clusters)
		own := d.below(50)
		told := []int{0, own}
		var acks []api.Acked
		last := 0
		for range 4 * nodes {
			a := api.Acked{Node: d.below(nodes + 2), Number: d.below(60) - 5}
			acks, told = append(acks, a), append(told, a.Number)
			n := sure(t, nodes, own, acks)
			if n < last || !slices.Contains(told, n) {
				t.Fatalf("P13.2: Sure(%d, %d, %v): %d, and %d ahead of the last one", nodes, own, acks, n, last)
			}
			last = n
		}
	}
}
