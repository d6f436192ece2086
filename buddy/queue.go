package buddy

import (
	"container/heap"
	"slices"

	"tumulus/api"
)

// list is blocks that come and go at their end.
type list []api.Block

func (l *list) size() int {
	return len(*l)
}

func (l *list) swap(i, j int) {
	(*l)[i], (*l)[j] = (*l)[j], (*l)[i]
}

func (l *list) push(b api.Block) {
	*l = append(*l, b)
}

func (l *list) pop() api.Block {
	last := len(*l) - 1
	b := (*l)[last]
	*l = (*l)[:last]
	return b
}

// waiting is free blocks, of which the one of the least Order, and then of the least At, comes first.
type waiting struct {
	list
}

func (w *waiting) less(i, j int) bool {
	a, b := w.list[i], w.list[j]
	if a.Order != b.Order {
		return a.Order < b.Order
	}
	return a.At < b.At
}

// methods are what the library's heap asks for, of blocks: its own ones would hand on values of any type.
type methods struct {
	size func(*waiting) int
	less func(w *waiting, i, j int) bool
	swap func(w *waiting, i, j int)
	push func(*waiting, api.Block)
	pop  func(*waiting) api.Block
}

// byOrder tells the methods by which free blocks wait.
func byOrder() methods {
	return methods{
		size: (*waiting).size,
		less: (*waiting).less,
		swap: (*waiting).swap,
		push: (*waiting).push,
		pop:  (*waiting).pop,
	}
}

// queue is free blocks in a heap of the library's.
type queue struct {
	of *waiting
	by methods
}

// wait makes a queue of a copy of the free blocks.
func wait(free []api.Block) queue {
	q := queue{of: &waiting{list: slices.Clone(free)}, by: byOrder()}
	heap.Init(q)
	return q
}

// next takes the first one out; there must be one.
func (q queue) next() api.Block {
	b, _ := heap.Pop(q).(api.Block)
	return b
}

func (q queue) add(b api.Block) {
	heap.Push(q, b)
}

// Len, and the four below it, are by the names that the library asks for.
func (q queue) Len() int {
	return q.by.size(q.of)
}

func (q queue) Less(i, j int) bool {
	return q.by.less(q.of, i, j)
}

func (q queue) Swap(i, j int) {
	q.by.swap(q.of, i, j)
}

func (q queue) Push(x any) {
	if b, ok := x.(api.Block); ok {
		q.by.push(q.of, b)
	}
}

func (q queue) Pop() any {
	return q.by.pop(q.of)
}
