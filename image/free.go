package image

import (
	"cmp"
	"slices"

	"tumulus/api"
)

// freeBeside is the free blocks of a region of so many words, in which objects lie. Whether objects lie
// on one another, or beyond the region, is not asked here.
func freeBeside(objects []api.Object, words int) []api.Block {
	taken := make([]api.Block, len(objects))
	for i, o := range objects {
		taken[i] = o.Block
	}
	slices.SortFunc(taken, func(a, b api.Block) int { return cmp.Compare(a.At, b.At) })
	var free []api.Block
	end := 0
	for _, b := range taken {
		free = fill(free, end, b.At)
		end = b.At + 1<<b.Order
	}
	return fill(free, end, words)
}

// fill answers free, and behind it the blocks that make up the words from one place to another: each the
// greatest that may be in its place, so that no two are twins.
func fill(free []api.Block, from, to int) []api.Block {
	for from < to {
		order, size := 0, 1
		for from%(2*size) == 0 && from+2*size <= to {
			order, size = order+1, 2*size
		}
		free = append(free, api.Block{At: from, Order: order})
		from += size
	}
	return free
}
