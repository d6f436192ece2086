package bag

import "slices"

// row is elements in their order, with room for so many.
type row[T any] struct {
	room int
	list []T
}

// add lays elements behind the last one; of more than there is room for, those in front are gone.
func (r *row[T]) add(more ...T) {
	more = more[max(len(more)-r.room, 0):]
	over := max(len(r.list)+len(more)-r.room, 0)
	// What is gone goes first: so the list's memory stays in bounds, however much is added.
	r.list = append(slices.Delete(r.list, 0, over), more...)
}

// at is the element in place i, and whether there is one.
func (r *row[T]) at(i int) (T, bool) {
	if i < 0 || i >= len(r.list) {
		var none T
		return none, false
	}
	return r.list[i], true
}

// drop lets the element in place i go, which must be there.
func (r *row[T]) drop(i int) {
	r.list = slices.Delete(r.list, i, i+1)
}
