package views_test

import (
	"math"
	"slices"
	"testing"

	"tumulus/api"
	"tumulus/views"
)

// isSure looks whether Sure tells of acks, in several orders, what is wanted.
func isSure(t *testing.T, nodes, own int, acks []api.Acked, want int) {
	t.Helper()
	d := dice(len(acks))
	for _, row := range orders(&d, acks) {
		if n := sure(t, nodes, own, row); n != want {
			t.Fatalf("P13.2: Sure(%d, %d, %v): %d, not %d", nodes, own, row, n, want)
		}
	}
}

// acksOf are acks of the nodes of a set, each with this number.
func acksOf(set, number int) []api.Acked {
	var acks []api.Acked
	for _, id := range members(set) {
		acks = append(acks, api.Acked{Node: id, Number: number})
	}
	return acks
}

// told are acks, each by its node and its number.
func told(l ...int) []api.Acked {
	var acks []api.Acked
	for i := 0; i+1 < len(l); i += 2 {
		acks = append(acks, api.Acked{Node: l[i], Number: l[i+1]})
	}
	return acks
}

// edges are numbers at edges, and some between them.
var edges = []int{0, 1, 5, 9, -1, -5, 1 << 31, 1 << 32, -1 << 31, -1 << 32, math.MaxInt, math.MaxInt - 1, math.MinInt, math.MinInt + 1}

func TestSure(t *testing.T) {
	for _, x := range []struct {
		nodes, own int
		acks       []api.Acked
		want       int
	}{
		{3, 5, told(2, 5), 5},
		{3, 5, told(2, 6), 5},
		{3, 5, told(2, 4), 4},
		{3, 5, told(2, 4, 3, 3), 4},
		{3, 5, told(2, 3, 3, 4), 4},
		{3, 5, told(2, 8, 3, 7), 7},
		{3, 0, told(2, 8, 3, 7), 7},
		{3, -9, told(2, 8, 3, 7), 7},
		{3, 5, told(2, 8, 3, 4), 5},
		{3, 5, told(1, 4), 4},
		{3, 5, told(1, 9, 2, 8, 3, 7), 8},
		{3, 1, told(1, 2), 1},
		{5, 5, told(2, 4), 0},
		{5, 5, told(2, 4, 5, 2), 2},
		{5, 1, told(2, 4, 5, 2), 1},
		{5, 3, told(2, 4, 5, 2), 2},
		{5, 9, told(2, 4, 3, 3, 4, 2, 5, 1), 3},
		{5, 0, told(2, 4, 3, 3, 4, 2, 5, 1), 2},
		{5, 3, told(1, 7, 2, 6, 3, 5, 4, 4, 5, 2), 5},
		{7, 9, told(2, 4, 3, 3), 0},
		{7, 9, told(2, 4, 3, 3, 7, 2), 2},
		{7, 1, told(2, 4, 3, 3, 7, 2), 1},
		{7, 1, told(2, 7, 3, 6, 4, 5, 5, 4, 6, 3, 7, 2), 4},
		{7, 9, told(2, 7, 3, 6, 4, 5, 5, 4, 6, 3, 7, 2), 5},
		{7, 9, told(1, 8, 2, 7, 3, 6, 4, 5, 5, 4, 6, 3, 7, 2), 6},
	} {
		isSure(t, x.nodes, x.own, x.acks, x.want)
	}
}

// TestSureWithoutAcks: own alone is never more than half.
func TestSureWithoutAcks(t *testing.T) {
	for _, nodes := range clusters {
		for _, own := range edges {
			if views.Sure(nodes, own, nil) != 0 || sure(t, nodes, own, []api.Acked{}) != 0 {
				t.Errorf("P13.2: Sure(%d, %d, none) is not 0", nodes, own)
			}
		}
	}
}

// TestSureOfEachSet: with acks of each set of nodes, all of one number, that own has too, or has not.
func TestSureOfEachSet(t *testing.T) {
	eachSet(func(nodes, set int, want bool) {
		count := len(members(set))
		for _, own := range []int{9, 10, math.MaxInt} {
			sure := 0
			if count+1 >= enoughOf[nodes] {
				sure = 9
			}
			if want {
				sure = min(own, 9)
			}
			isSure(t, nodes, own, acksOf(set, 9), sure)
		}
		for _, own := range []int{8, 1, 0, -1, math.MinInt} {
			sure := 0
			if count+1 >= enoughOf[nodes] {
				sure = max(own, 0)
			}
			if want {
				sure = 9
			}
			isSure(t, nodes, own, acksOf(set, 9), sure)
		}
	})
}

// TestSureOfEachSetMixed: each node of the set has another number, and own is below, between and above them.
func TestSureOfEachSetMixed(t *testing.T) {
	eachSet(func(nodes, set int, _ bool) {
		var rising, falling []api.Acked
		for _, id := range members(set) {
			rising = append(rising, api.Acked{Node: id, Number: 10 * id})
			falling = append(falling, api.Acked{Node: id, Number: 80 - 10*id})
		}
		for own := -5; own <= 85; own += 5 {
			isSure(t, nodes, own, rising, plainSure(nodes, own, rising))
			isSure(t, nodes, own, falling, plainSure(nodes, own, falling))
		}
	})
}

// TestSureOfOneNodeTwice: a node counts once, with the greatest of its Numbers, whichever of them comes first.
func TestSureOfOneNodeTwice(t *testing.T) {
	for _, x := range []struct {
		nodes, own int
		acks       []api.Acked
		want       int
	}{
		{3, 9, told(2, 3, 2, 7), 7},
		{3, 9, told(2, 7, 2, 3), 7},
		{3, 9, told(2, 7, 2, 8, 2, 3), 8},
		{3, 0, told(2, 7, 2, 7), 0},
		{3, 0, told(2, 7, 2, 8, 2, 9), 0},
		{3, 5, told(2, 7, 2, 8), 5},
		{3, 5, told(2, 7, 3, 6, 2, 1), 6},
		{3, 5, told(2, 1, 3, 6, 2, 7), 6},
		{3, 9, told(2, 3, 2, math.MinInt), 3},
		{3, 9, told(2, math.MinInt, 2, 3), 3},
		{3, 9, told(2, -1, 2, 0), 0},
		{5, 9, told(2, 3, 2, 7), 0},
		{5, 9, told(2, 3, 2, 7, 2, 8, 2, 9), 0},
		{5, 9, told(2, 3, 4, 5, 2, 7), 5},
		{5, 9, told(2, 7, 4, 5, 2, 3), 5},
		{7, 9, told(2, 7, 4, 5, 2, 3, 4, 6), 0},
		{7, 9, told(2, 7, 4, 5, 2, 3, 4, 6, 5, 8), 6},
	} {
		isSure(t, x.nodes, x.own, x.acks, x.want)
	}
}

// TestSureAmongOthers: acks of what is no node don't count, nor do they hide any.
func TestSureAmongOthers(t *testing.T) {
	for _, nodes := range clusters {
		others := make([]api.Acked, 0, 12)
		for _, id := range noNodes(nodes) {
			others = append(others, api.Acked{Node: id, Number: 9})
			isSure(t, nodes, 9, []api.Acked{{Node: id, Number: 9}}, 0)
		}
		isSure(t, nodes, 9, others, 0)
		isSure(t, nodes, 0, slices.Repeat(others, 3), 0)
		few := acksOf(1<<(enoughOf[nodes]-1)-1, 5)
		isSure(t, nodes, 9, slices.Concat(few, others), 5)
		isSure(t, nodes, 3, slices.Concat(few, others), 3)
		isSure(t, nodes, 9, slices.Concat(few[1:], others), 0)
		isSure(t, nodes, 0, slices.Concat(acksOf(1<<nodes-1, 5), others), 5)
	}
}

// TestSureAtEdges: own and the Numbers of acks are 0, below it, and as far off as an int goes.
func TestSureAtEdges(t *testing.T) {
	for _, nodes := range clusters {
		few, all := 1<<(enoughOf[nodes]-1)-1, 1<<nodes-1
		for _, own := range edges {
			for _, number := range edges {
				isSure(t, nodes, own, acksOf(few, number), max(min(own, number), 0))
				isSure(t, nodes, own, acksOf(all, number), max(number, 0))
				isSure(t, nodes, own, acksOf(few>>1, number), 0)
				for _, other := range edges {
					acks := append(acksOf(few, number), acksOf(all&^few, other)...)
					isSure(t, nodes, own, acks, plainSure(nodes, own, acks))
				}
			}
		}
	}
}

// TestSureOfAllSmall: each row of up to three acks of small numbers, beside a count from 0 on.
func TestSureOfAllSmall(t *testing.T) {
	var some []api.Acked
	for node := 0; node <= 4; node++ {
		for number := -1; number <= 2; number++ {
			some = append(some, api.Acked{Node: node, Number: number})
		}
	}
	eachRow(some, 3, func(acks []api.Acked) {
		for own := -1; own <= 3; own++ {
			want := 0
			for n := 0; n <= 4; n++ {
				if haves(3, own, acks, n) > 1 {
					want = n
				}
			}
			if n := sure(t, 3, own, acks); n != want {
				t.Fatalf("P13.2: Sure(3, %d, %v): %d, not %d", own, acks, n, want)
			}
		}
	})
}

func TestSureOfNoCluster(t *testing.T) {
	for _, nodes := range noClusters {
		for _, own := range edges {
			for _, acks := range [][]api.Acked{nil, {}, acksOf(1<<9-1, 5), acksOf(1, 9), {{Node: nodes, Number: 9}}, {{Node: -1, Number: 9}, {Node: 0, Number: 9}}} {
				if n := sure(t, nodes, own, acks); n != 0 {
					t.Errorf("P13.2: Sure(%d, %d, %v): %d", nodes, own, acks, n)
				}
			}
		}
	}
}

// TestSureOfLong: of a long list each ack counts, were it the last one.
func TestSureOfLong(t *testing.T) {
	for _, nodes := range clusters {
		few := slices.Repeat(acksOf(1<<(enoughOf[nodes]-2)-1, 7), 20000)
		last := api.Acked{Node: nodes, Number: 6}
		if n := sure(t, nodes, 9, few); n != 0 {
			t.Errorf("P13.2: Sure of %d nodes, and a long list of few of them: %d", nodes, n)
		}
		for _, l := range [][]api.Acked{append(slices.Clone(few), last), append([]api.Acked{last}, few...)} {
			if n := sure(t, nodes, 9, l); n != 6 {
				t.Errorf("P13.2: Sure of %d nodes, and a long list: %d", nodes, n)
			}
		}
	}
}
