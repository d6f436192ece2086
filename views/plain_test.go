package views_test

import (
	"math"
	"reflect"
	"slices"
	"testing"

	"tumulus/api"
	"tumulus/views"
)

const maxView = 900000000

// clusters are all numbers of nodes.
var clusters = []int{3, 5, 7}

// half is the greatest number of nodes that are not enough.
var half = map[int]int{3: 1, 5: 2, 7: 3}

// noClusters are no cluster's numbers of nodes.
var noClusters = []int{0, 1, 2, 4, 6, 8, 9, -3, -1, -2, -5, -7, 11, 1<<32 + 3, -1<<32 + 3, math.MaxInt, math.MaxInt - 1, math.MinInt, math.MinInt + 1, math.MinInt + 3}

// noViews are no views.
var noViews = []int{-1, maxView + 1, -2, -3, maxView + 2, maxView + 3, -maxView, 1 << 32, -1 << 32, math.MaxInt, math.MaxInt - 1, math.MinInt, math.MinInt + 1}

// numbers are ordinary ones, and those at edges.
func numbers() []int {
	return []int{0, 1, 2, 3, 4, 5, 6, 7, 8, 9, -1, -2, -3, -7, maxView, maxView - 1, maxView + 1, 1 << 31, 1 << 32, -1 << 31, -1 << 32, math.MaxInt, math.MaxInt - 1, math.MinInt, math.MinInt + 1}
}

// noNodes are numbers that are none of so many nodes.
func noNodes(nodes int) []int {
	return []int{0, -1, nodes + 1, nodes + 2, -2, -nodes, 1<<32 + 1, -1<<32 + 1, math.MaxInt, math.MaxInt - 1, math.MinInt, math.MinInt + 1}
}

// What follows tells by the document's words alone what each call has to answer.

func plainNodes(n int) bool {
	return slices.Contains(clusters, n)
}

func plainPrimary(nodes, view int) int {
	if !plainNodes(nodes) || view < 0 || view > maxView {
		return 0
	}
	return 1 + view - view/nodes*nodes
}

func plainNext(nodes, view, id int) int {
	if plainPrimary(nodes, view) == 0 || id < 1 || id > nodes {
		return -1
	}
	next := view/nodes*nodes + id - 1
	if next <= view {
		next += nodes
	}
	if next > maxView {
		return -1
	}
	return next
}

func plainEnough(nodes int, l []int) bool {
	there := map[int]bool{}
	for _, id := range l {
		if id >= 1 && id <= nodes {
			there[id] = true
		}
	}
	return plainNodes(nodes) && len(there) > half[nodes]
}

// haves counts what have n: one, if own is n or more, and one for each node that stands in acks with n or more.
func haves(nodes, own int, acks []api.Acked, n int) int {
	count := 0
	if own >= n {
		count++
	}
	for id := 1; id <= nodes; id++ {
		if slices.ContainsFunc(acks, func(a api.Acked) bool { return a.Node == id && a.Number >= n }) {
			count++
		}
	}
	return count
}

// plainSure tries own and each ack's Number: a number between two of them is had by the same as the upper one, and
// one above all of them by nothing.
func plainSure(nodes, own int, acks []api.Acked) int {
	sure := 0
	if !plainNodes(nodes) {
		return sure
	}
	tried := []int{own}
	for _, a := range acks {
		tried = append(tried, a.Number)
	}
	for _, n := range tried {
		if n > sure && haves(nodes, own, acks, n) > half[nodes] {
			sure = n
		}
	}
	return sure
}

func plainBest(votes []api.Vote) int {
	best := -1
	for i, v := range votes {
		if best < 0 || v.Normal > votes[best].Normal || v.Normal == votes[best].Normal && v.Number > votes[best].Number {
			best = i
		}
	}
	return best
}

// asked is what a call answers of a list, that must stay as it is, as must what lies behind it in its memory. Asked
// again, with the list in another memory, the call answers the same.
func asked[T any, R comparable](t *testing.T, l []T, call func([]T) R) R {
	t.Helper()
	whole := append(slices.Clone(l), l...)
	before := slices.Clone(whole)
	got := call(whole[:len(l)])
	if !reflect.DeepEqual(whole, before) {
		t.Fatalf("R2: what was handed in was changed: %+v, not %+v", whole, before)
	}
	if again := call(l); again != got {
		t.Fatalf("R2: of the same list %v and then %v", got, again)
	}
	return got
}

func enough(t *testing.T, nodes int, l []int) bool {
	t.Helper()
	return asked(t, l, func(l []int) bool { return views.Enough(nodes, l) })
}

func sure(t *testing.T, nodes, own int, acks []api.Acked) int {
	t.Helper()
	return asked(t, acks, func(l []api.Acked) int { return views.Sure(nodes, own, l) })
}

func best(t *testing.T, votes []api.Vote) int {
	t.Helper()
	return asked(t, votes, views.Best)
}

// members are the nodes of a set: node 1 is its lowest bit.
func members(set int) []int {
	var l []int
	for id := 1; set>>(id-1) > 0; id++ {
		if set>>(id-1)&1 == 1 {
			l = append(l, id)
		}
	}
	return l
}

// orders are a list's elements in several orders: as they are, the other way round, turned about, and mixed.
func orders[T any](d *dice, l []T) [][]T {
	back := slices.Clone(l)
	slices.Reverse(back)
	all := [][]T{l, back}
	for i := range l {
		all = append(all, slices.Concat(l[i:], l[:i]))
	}
	for range 4 {
		mixed := slices.Clone(l)
		for i := range mixed {
			j := i + d.below(len(mixed)-i)
			mixed[i], mixed[j] = mixed[j], mixed[i]
		}
		all = append(all, mixed)
	}
	return all
}

// dice is a row of numbers by a rule.
type dice uint64

func (d *dice) below(n int) int {
	*d = *d*6364136223846793005 + 1442695040888963407
	return int(uint64(*d) >> 33 % uint64(n))
}

// of draws one of a list.
func of[T any](d *dice, l []T) T {
	return l[d.below(len(l))]
}
