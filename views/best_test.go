package views_test

import (
	"math"
	"reflect"
	"slices"
	"testing"

	"tumulus/api"
	"tumulus/views"
)

// vote is one of this Normal and Number alone.
func vote(normal, number int) api.Vote {
	return api.Vote{Normal: normal, Number: number}
}

func TestBest(t *testing.T) {
	const least, most = math.MinInt, math.MaxInt
	for _, x := range []struct {
		votes []api.Vote
		want  int
	}{
		{nil, -1},
		{[]api.Vote{}, -1},
		{[]api.Vote{{}}, 0},
		{[]api.Vote{vote(-5, -5)}, 0},
		{[]api.Vote{vote(least, least)}, 0},
		{[]api.Vote{vote(most, most)}, 0},
		{[]api.Vote{{}, {}, {}}, 0},
		// The greatest Normal first, in the middle, last.
		{[]api.Vote{vote(3, 1), vote(2, 8), vote(1, 9)}, 0},
		{[]api.Vote{vote(2, 8), vote(3, 1), vote(1, 9)}, 1},
		{[]api.Vote{vote(2, 8), vote(1, 9), vote(3, 1)}, 2},
		{[]api.Vote{vote(3, 0), vote(2, most)}, 0},
		{[]api.Vote{vote(2, most), vote(3, least)}, 1},
		// Several have it: the greatest Number decides.
		{[]api.Vote{vote(2, 5), vote(2, 4), vote(1, 9), vote(2, 3)}, 0},
		{[]api.Vote{vote(2, 4), vote(1, 9), vote(2, 5), vote(2, 3)}, 2},
		{[]api.Vote{vote(2, 4), vote(2, 3), vote(1, 9), vote(2, 5)}, 3},
		{[]api.Vote{vote(1, 9), vote(2, 3), vote(2, 4), vote(0, 99)}, 2},
		// Several have both: the first of them.
		{[]api.Vote{vote(2, 5), vote(2, 5)}, 0},
		{[]api.Vote{vote(1, 5), vote(2, 5), vote(2, 5), vote(2, 4)}, 1},
		{[]api.Vote{vote(2, 4), vote(1, 6), vote(2, 5), vote(2, 4), vote(2, 5), vote(2, 5)}, 2},
		{[]api.Vote{vote(2, 4), vote(2, 4), vote(2, 4)}, 0},
		// Below 0, and as far off as an int goes.
		{[]api.Vote{vote(-2, 5), vote(-1, 1), vote(-3, 9)}, 1},
		{[]api.Vote{vote(-1, -5), vote(-1, -4), vote(-1, -6)}, 1},
		{[]api.Vote{vote(-1, 9), vote(0, -9)}, 1},
		{[]api.Vote{vote(0, -1), vote(0, 0), vote(0, -2)}, 1},
		{[]api.Vote{vote(least, 0), vote(most, 0)}, 1},
		{[]api.Vote{vote(most, 0), vote(least, 0)}, 0},
		{[]api.Vote{vote(0, least), vote(0, most)}, 1},
		{[]api.Vote{vote(0, most), vote(0, least)}, 0},
		{[]api.Vote{vote(least, most), vote(least+1, least)}, 1},
		{[]api.Vote{vote(most-1, most), vote(most, least)}, 1},
		{[]api.Vote{vote(least, most), vote(-1, 0), vote(1, 0)}, 2},
		{[]api.Vote{vote(most, least), vote(most, most), vote(most, most)}, 1},
		{[]api.Vote{vote(1<<32, 0), vote(1, 1)}, 0},
		{[]api.Vote{vote(0, 1), vote(0, 1<<32)}, 1},
		{[]api.Vote{vote(1<<53+1, 0), vote(1<<53, 9)}, 0},
	} {
		if i := best(t, x.votes); i != x.want {
			t.Errorf("P13.3: Best(%v): %d, not %d", x.votes, i, x.want)
		}
	}
}

// others are votes of one Normal and Number, that differ in one of the other fields alone.
func others(normal, number int) []api.Vote {
	plain := vote(normal, number)
	all := []api.Vote{plain}
	for _, n := range []int{1, 7, -1, math.MaxInt, math.MinInt} {
		node, base, commit := plain, plain, plain
		node.Node, base.Base, commit.Commit = n, n, n
		all = append(all, node, base, commit)
	}
	for _, entries := range [][]api.Entry{{}, {{}}, {{Number: 9, View: 9}}, make([]api.Entry, 50)} {
		with := plain
		with.Entries = entries
		all = append(all, with)
	}
	return all
}

// TestBestOfOtherFields: what differs in other fields alone is the same; they never tip the scales.
func TestBestOfOtherFields(t *testing.T) {
	same, lower, shorter := others(2, 5), others(1, 9), others(2, 4)
	for i, a := range same {
		for k, b := range same {
			if n := best(t, []api.Vote{a, b}); n != 0 {
				t.Errorf("P13.3: Best(%+v, %+v): %d", a, b, n)
			}
			if n := best(t, []api.Vote{lower[i], a, shorter[k], b}); n != 1 {
				t.Errorf("P13.3: Best(%+v, %+v, %+v, %+v): %d", lower[i], a, shorter[k], b, n)
			}
			if n := best(t, []api.Vote{lower[i], shorter[k], b}); n != 2 {
				t.Errorf("P13.3: Best(%+v, %+v, %+v): %d", lower[i], shorter[k], b, n)
			}
		}
	}
	if n := best(t, same); n != 0 {
		t.Errorf("P13.3: Best of votes that differ in other fields: %d", n)
	}
}

// TestBestOfAllSmall: each row of up to five votes of small numbers.
func TestBestOfAllSmall(t *testing.T) {
	var some []api.Vote
	for normal := -1; normal <= 1; normal++ {
		for number := -1; number <= 1; number++ {
			some = append(some, vote(normal, number))
		}
	}
	eachRow(some, 5, func(votes []api.Vote) {
		if i := views.Best(votes); i != plainBest(votes) {
			t.Fatalf("P13.3: Best(%v): %d", votes, i)
		}
	})
}

// TestBestOfLong: each place of a long list may be the best one's.
func TestBestOfLong(t *testing.T) {
	votes := make([]api.Vote, 300)
	for i := range votes {
		votes[i] = vote(5, 5)
		if n := views.Best(votes); n != 0 {
			t.Errorf("P13.3: Best of like votes: %d", n)
		}
		votes[i] = vote(5, 6)
		if n := views.Best(votes); n != i {
			t.Errorf("P13.3: Best of a longer log in place %d: %d", i, n)
		}
		votes[i] = vote(6, 0)
		if n := views.Best(votes); n != i {
			t.Errorf("P13.3: Best of a newer log in place %d: %d", i, n)
		}
		votes[i] = vote(5, 5)
	}
	long := slices.Repeat([]api.Vote{vote(1, 1)}, 100000)
	long[99998] = vote(1, 2)
	if n := views.Best(long); n != 99998 {
		t.Errorf("P13.3: Best of a long list: %d", n)
	}
}

// TestBestChangesNothing: the votes, their entries and what lies behind all of them stay as they are.
func TestBestChangesNothing(t *testing.T) {
	made := func() (votes []api.Vote, wholes [][]api.Entry) {
		for n := range 6 {
			whole := make([]api.Entry, n+3)
			for i := range whole {
				whole[i] = api.Entry{Number: 10*n + i, View: i}
			}
			wholes = append(wholes, whole)
			votes = append(votes, api.Vote{Node: n, Normal: n % 3, Base: n, Number: n % 2, Commit: n, Entries: whole[:n]})
		}
		return votes, wholes
	}
	votes, wholes := made()
	if i := views.Best(votes[:5]); i != 2 {
		t.Errorf("P13.3: Best(%+v): %d", votes[:5], i)
	}
	if same, entries := made(); !reflect.DeepEqual(votes, same) || !reflect.DeepEqual(wholes, entries) {
		t.Errorf("R2: Best changed what it was handed: %+v", votes)
	}
}
