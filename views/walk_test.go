package views_test

import (
	"math"
	"testing"

	"tumulus/api"
	"tumulus/views"
)

// drawnNodes is mostly a cluster's number.
func drawnNodes(d *dice) int {
	switch d.below(12) {
	case 0:
		return of(d, noClusters)
	case 1:
		return d.below(12) - 2
	}
	return of(d, clusters)
}

// drawnView is mostly a view, and often one of the first or of the last ones.
func drawnView(d *dice) int {
	switch d.below(8) {
	case 0:
		return of(d, noViews)
	case 1, 2:
		return d.below(30)
	case 3, 4:
		return maxView + 5 - d.below(20)
	}
	return d.below(maxView + 1)
}

// drawnNode is mostly a node.
func drawnNode(d *dice, nodes int) int {
	if d.below(10) == 0 {
		return of(d, noNodes(nodes))
	}
	return 1 + d.below(8)
}

// drawnNumber is mostly small, so that several are the same.
func drawnNumber(d *dice) int {
	switch d.below(12) {
	case 0:
		return of(d, edges)
	case 1:
		return d.below(math.MaxInt32) - d.below(math.MaxInt32)
	}
	return d.below(9) - 1
}

func drawnIds(d *dice, nodes int) []int {
	var l []int
	for range d.below(2*7 + 1) {
		l = append(l, drawnNode(d, nodes))
	}
	return l
}

func drawnAcks(d *dice, nodes int) []api.Acked {
	var acks []api.Acked
	for range d.below(2*7 + 1) {
		acks = append(acks, api.Acked{Node: drawnNode(d, nodes), Number: drawnNumber(d)})
	}
	return acks
}

func drawnVotes(d *dice) []api.Vote {
	var votes []api.Vote
	for range d.below(9) {
		v := api.Vote{Node: d.below(8), Normal: drawnNumber(d), Base: d.below(5), Number: drawnNumber(d), Commit: d.below(5)}
		v.Entries = make([]api.Entry, d.below(3))
		votes = append(votes, v)
	}
	return votes
}

// TestWalk: a long row of calls that are drawn answers as a plain reading of the document does.
func TestWalk(t *testing.T) {
	d := dice(13)
	given, none := map[string]int{}, map[string]int{}
	count := func(call string, is bool) {
		if is {
			given[call]++
		} else {
			none[call]++
		}
	}
	for range 100000 {
		nodes, view := drawnNodes(&d), drawnView(&d)
		id, own := drawnNode(&d, nodes), drawnNumber(&d)
		if is := views.Nodes(nodes); is != plainNodes(nodes) {
			t.Fatalf("P13.1: Nodes(%d): %v", nodes, is)
		}
		n := views.Primary(nodes, view)
		if n != plainPrimary(nodes, view) {
			t.Fatalf("P13.1: Primary(%d, %d): %d", nodes, view, n)
		}
		count("Primary", n > 0)
		if n = views.Next(nodes, view, id); n != plainNext(nodes, view, id) {
			t.Fatalf("P13.1: Next(%d, %d, %d): %d", nodes, view, id, n)
		}
		count("Next", n > 0)
		ids := drawnIds(&d, nodes)
		is := enough(t, nodes, ids)
		if is != plainEnough(nodes, ids) {
			t.Fatalf("P13.2: Enough(%d, %v): %v", nodes, ids, is)
		}
		count("Enough", is)
		acks := drawnAcks(&d, nodes)
		if n = sure(t, nodes, own, acks); n != plainSure(nodes, own, acks) {
			t.Fatalf("P13.2: Sure(%d, %d, %v): %d", nodes, own, acks, n)
		}
		count("Sure", n > 0)
		votes := drawnVotes(&d)
		if n = best(t, votes); n != plainBest(votes) {
			t.Fatalf("P13.3: Best(%v): %d", votes, n)
		}
		count("Best", n > 0)
	}
	for _, call := range []string{"Primary", "Next", "Enough", "Sure", "Best"} {
		if given[call] < 10000 || none[call] < 10000 {
			t.Errorf("what is drawn is one-sided: %s tells something %d times, nothing %d times", call, given[call], none[call])
		}
	}
}

// TestAnything: nothing panics, all ends, and is as the document says, whatever comes in.
func TestAnything(t *testing.T) {
	lists := [][]int{nil, {}, numbers(), make([]int, 5000)}
	acks := [][]api.Acked{nil, {}, make([]api.Acked, 5000)}
	votes := [][]api.Vote{nil, {}, make([]api.Vote, 5000)}
	var mixedAcks []api.Acked
	var mixedVotes []api.Vote
	for _, a := range numbers() {
		for _, b := range numbers() {
			mixedAcks = append(mixedAcks, api.Acked{Node: a, Number: b})
			mixedVotes = append(mixedVotes, api.Vote{Node: b, Normal: a, Base: a, Number: b, Commit: a})
		}
	}
	for _, l := range append(votes, mixedVotes) {
		if i := views.Best(l); i != plainBest(l) {
			t.Errorf("P13.3: Best of %d: %d", len(l), i)
		}
	}
	for _, nodes := range numbers() {
		if is := views.Nodes(nodes); is != plainNodes(nodes) {
			t.Errorf("P13.1: Nodes(%d): %v", nodes, is)
		}
		for _, l := range lists {
			if is := views.Enough(nodes, l); is != plainEnough(nodes, l) {
				t.Errorf("P13.2: Enough(%d, %v): %v", nodes, l, is)
			}
		}
		for _, n := range numbers() {
			if id := views.Primary(nodes, n); id != plainPrimary(nodes, n) {
				t.Errorf("P13.1: Primary(%d, %d): %d", nodes, n, id)
			}
			for _, id := range numbers() {
				if next := views.Next(nodes, n, id); next != plainNext(nodes, n, id) {
					t.Errorf("P13.1: Next(%d, %d, %d): %d", nodes, n, id, next)
				}
			}
			for _, l := range append(acks, mixedAcks, mixedAcks[:7]) {
				if got := views.Sure(nodes, n, l); got != plainSure(nodes, n, l) {
					t.Errorf("P13.2: Sure(%d, %d, %v): %d", nodes, n, l, got)
				}
			}
		}
	}
}
