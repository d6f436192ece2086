package views_test

import (
	"math/bits"
	"slices"
	"testing"

	"tumulus/views"
)

// enoughOf is how many nodes at least are enough.
var enoughOf = map[int]int{3: 2, 5: 3, 7: 4}

// eachSet goes through the sets of the nodes of each cluster, and tells of each whether it is enough.
func eachSet(ask func(nodes, set int, want bool)) {
	for _, nodes := range clusters {
		for set := range 1 << nodes {
			ask(nodes, set, bits.OnesCount(uint(set)) >= enoughOf[nodes])
		}
	}
}

// isEnough looks whether Enough tells of a list, in several orders, what is wanted.
func isEnough(t *testing.T, nodes int, l []int, want bool) {
	t.Helper()
	d := dice(len(l))
	for _, row := range orders(&d, l) {
		if is := enough(t, nodes, row); is != want {
			t.Fatalf("P13.2: Enough(%d, %v): %v", nodes, row, is)
		}
	}
}

func TestEnough(t *testing.T) {
	eachSet(func(nodes, set int, want bool) {
		isEnough(t, nodes, members(set), want)
	})
}

// TestEnoughTwice: a number that stands there twice, or more often, counts once.
func TestEnoughTwice(t *testing.T) {
	eachSet(func(nodes, set int, want bool) {
		l := members(set)
		isEnough(t, nodes, slices.Concat(l, l), want)
		isEnough(t, nodes, slices.Concat(l, l, l, l, l), want)
		for _, id := range l {
			isEnough(t, nodes, append(slices.Clone(l), id), want)
			isEnough(t, nodes, slices.Concat(slices.Repeat([]int{id}, 8), l), want)
		}
	})
}

// TestEnoughAmongOthers: numbers that are no node's don't count, nor do they hide any.
func TestEnoughAmongOthers(t *testing.T) {
	eachSet(func(nodes, set int, want bool) {
		l := members(set)
		others := noNodes(nodes)
		for _, other := range others {
			isEnough(t, nodes, append(slices.Clone(l), other), want)
			isEnough(t, nodes, append(slices.Clone(l), other, other, other), want)
		}
		isEnough(t, nodes, slices.Concat(l, others), want)
		isEnough(t, nodes, slices.Concat(l, others, l, others), want)
	})
}

func TestEnoughOfNothing(t *testing.T) {
	for _, nodes := range append(noClusters, clusters...) {
		if views.Enough(nodes, nil) || enough(t, nodes, []int{}) || enough(t, nodes, []int{1, 2, 3, 4, 5, 6, 7}[:0]) {
			t.Errorf("P13.2: Enough of %d nodes: true of a list without elements", nodes)
		}
	}
}

// TestEnoughOfLong: of a long list each element counts, were it the last one.
func TestEnoughOfLong(t *testing.T) {
	const length = 100000
	for _, nodes := range clusters {
		few := members(1<<(enoughOf[nodes]-1) - 1)
		long := slices.Repeat(few, length/len(few))
		for name, l := range map[string][]int{"few nodes": long, "none": slices.Repeat(noNodes(nodes), length/10)} {
			if enough(t, nodes, l) {
				t.Errorf("P13.2: Enough of %d nodes: true of a long list of %s", nodes, name)
			}
		}
		for id := enoughOf[nodes]; id <= nodes; id++ {
			if !enough(t, nodes, append(slices.Clone(long), id)) || !enough(t, nodes, append([]int{id}, long...)) {
				t.Errorf("P13.2: Enough of %d nodes: false of a long list, and node %d", nodes, id)
			}
		}
		if !enough(t, nodes, append(slices.Repeat([]int{0}, length), members(1<<nodes-1)...)) {
			t.Errorf("P13.2: Enough of %d nodes: false of all of them behind a long list", nodes)
		}
	}
}

func TestEnoughOfNoCluster(t *testing.T) {
	all := []int{1, 2, 3, 4, 5, 6, 7, 8, 9, 10, 11}
	for _, nodes := range noClusters {
		for _, l := range [][]int{all, all[:1], all[:2], all[:4], {0}, {-1}, {nodes}, {nodes, nodes - 1}, {-3, -2, -1, 0, 1, 2, 3}} {
			if enough(t, nodes, l) {
				t.Errorf("P13.2: Enough(%d, %v): true", nodes, l)
			}
		}
	}
}

// TestEnoughOfAllSmall: each list of up to five numbers of nodes 1 to 3, and of none.
func TestEnoughOfAllSmall(t *testing.T) {
	eachRow([]int{-1, 0, 1, 2, 3, 4}, 5, func(l []int) {
		if is := enough(t, 3, l); is != plainEnough(3, l) {
			t.Fatalf("P13.2: Enough(3, %v): %v", l, is)
		}
	})
}

// eachRow goes through the rows of up to so many elements, each of which is one of these.
func eachRow[T any](of []T, most int, ask func([]T)) {
	var more func(row []T)
	more = func(row []T) {
		ask(row)
		if len(row) == most {
			return
		}
		for _, x := range of {
			more(append(slices.Clone(row), x))
		}
	}
	more(nil)
}
