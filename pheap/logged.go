package pheap

import (
	"slices"

	"tumulus/api"
	"tumulus/heap"
	"tumulus/image"
	"tumulus/pdisk"
	"tumulus/redo"
)

// sectors are the log's, from the disk's first one on: as many as each disk has. The others stay blank.
const sectors = 256

// batch is how many operations come behind an image, at most. So the log has room for the next image whenever
// it is time for that: one costs 87 at most (see pack), an operation's record 4, and twice an image and a batch
// are less than the 250 that a log of 256 sectors takes.
const batch = 16

// logged is a heap, and its log on a disk: an image, and the operations that counted since. What is laid of a
// next image comes behind them, and puts an end to what lies ahead of it.
type logged struct {
	*redo.Log
	heap  api.Heap
	since int // operations behind the image
}

// open takes up what lies on a disk. It ends as a checkpoint does: one that a crash cut short is gone on with,
// else its pieces would lie in the way of further ones.
func open(d *pdisk.Disk, order int) (*logged, api.Errno) {
	log, first, records, e := redo.Open(d, 0, sectors)
	if e != api.OK {
		return nil, e
	}
	h, laid, right := told(order, first, records)
	if !right {
		return nil, api.ErrPheapSpoilt
	}
	l := &logged{Log: log, heap: h}
	if e := l.lay(laid); e != api.OK {
		return nil, e
	}
	return l, api.OK
}

// do does an operation. What doesn't count is not told the log.
func (l *logged) do(o api.Op) (api.Result, api.Errno) {
	next, result := heap.Do(l.heap, o)
	if !counts(o, result) {
		return result, api.OK
	}
	if l.since == batch {
		if e := l.lay(0); e != api.OK {
			return api.Result{}, e
		}
	}
	if e := l.Append(operation + string(image.PutOp(o))); e != api.OK {
		return api.Result{}, e
	}
	l.heap = next
	l.since++
	return result, api.OK
}

// lay lays an image of the heap, of which so many pieces are laid already, and lets go what lies ahead of it.
func (l *logged) lay(laid int) api.Errno {
	all := pieces(l.heap)
	for _, p := range all[laid:] {
		if e := l.Append(p); e != api.OK {
			return e
		}
	}
	if e := l.Trim(l.Next() - len(all)); e != api.OK {
		return e
	}
	l.since = 0
	return api.OK
}

// counts tells whether an operation with that result may have changed the heap.
func counts(o api.Op, r api.Result) bool {
	return r.Code == api.OK && o.Kind != api.OpRead && o.Kind != api.OpFollow && o.Kind != api.OpTop
}

// told is the heap that a log's records tell, and of how many pieces of its next image they tell; or that no
// heap of that order has left them.
func told(order, first int, records []string) (h api.Heap, laid int, right bool) {
	if first == 1 && len(records) == 0 {
		// The first Open was cut short, if there was one: it ends with an image that is safe.
		h, _ = heap.New(order)
		return h, 0, true
	}
	h, rest, right := imaged(records)
	if !right || h.Order != order {
		return api.Heap{}, 0, false
	}
	h, rest, right = redone(h, rest)
	if !right {
		return api.Heap{}, 0, false
	}
	all := pieces(h)
	if len(rest) > len(all) || !slices.Equal(rest, all[:len(rest)]) {
		return api.Heap{}, 0, false
	}
	return h, len(rest), true
}
