package heap

import (
	"cmp"
	"slices"
	"sort"

	"tumulus/api"
	"tumulus/buddy"
)

// objectsRight tells whether the objects rise below Next, each with a block of its order.
func objectsRight(h api.Heap) bool {
	if h.Next < 1 || h.Next > api.MaxHandle+1 {
		return false
	}
	last := 0
	for _, o := range h.Objects {
		if o.Handle <= last || o.Handle >= h.Next || !blockFits(o) {
			return false
		}
		last = o.Handle
	}
	return true
}

// blockFits tells whether an object has a block of its order at a multiple of its size. Whether that
// lies in the region shows when all blocks are laid side by side.
func blockFits(o api.Object) bool {
	need := Need(len(o.Words), len(o.Links))
	return need >= 0 && o.Block.Order == need && o.Block.At%buddy.Words(need) == 0
}

func freeRight(h api.Heap) bool {
	return buddy.Check(h.Order, h.Free) == api.OK
}

// blocksFill tells whether all blocks, of objects and free ones, make up the region: each begins where
// the one ahead of it ends.
func blocksFill(h api.Heap) bool {
	blocks := slices.Clone(h.Free)
	for _, o := range h.Objects {
		blocks = append(blocks, o.Block)
	}
	slices.SortFunc(blocks, func(a, b api.Block) int { return cmp.Compare(a.At, b.At) })
	end := 0
	for _, b := range blocks {
		if b.At != end {
			return false
		}
		end += buddy.Words(b.Order)
	}
	return end == buddy.Words(h.Order)
}

// linksLead tells whether each link and each root leads to an object, or nowhere.
func linksLead(h api.Heap) bool {
	leadsNowhere := func(handle int) bool { return !mayLink(h.Objects, handle) }
	for _, o := range h.Objects {
		if slices.ContainsFunc(o.Links, leadsNowhere) {
			return false
		}
	}
	return !slices.ContainsFunc(h.Tops[:], leadsNowhere)
}

// mayLink tells whether a link may be this handle.
func mayLink(objects []api.Object, handle int) bool {
	_, found := find(objects, handle)
	return found || handle == 0
}

// find is the place of the object of this handle, among objects that rise.
func find(objects []api.Object, handle int) (int, bool) {
	return sort.Find(len(objects), func(i int) int { return cmp.Compare(handle, objects[i].Handle) })
}
