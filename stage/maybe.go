package stage

// maybe is a thing that may be missing; it is zero then.
type maybe[T any] struct {
	thing T
	there bool
}

// some is a thing that is there.
func some[T any](thing T) maybe[T] {
	return maybe[T]{thing, true}
}

// get is the thing, and whether it is there.
func (m maybe[T]) get() (T, bool) {
	return m.thing, m.there
}
