// Package code lays numbers, ints and texts as bytes of fixed sizes, and reads them back.
package code

import "tumulus/api"

const (
	numberSize = 4
	intSize    = 8
	// highestFirst is the greatest first byte of a number: above it the bytes are more than MaxNumber.
	highestFirst = api.MaxNumber >> 24
)

// PutNumber answers b, and the four bytes of n behind it.
func PutNumber(b []byte, n int) ([]byte, api.Errno) {
	if n < 0 || n > api.MaxNumber {
		return nil, api.ErrArg
	}
	return putBits(b, uint64(n), numberSize), api.OK
}

// PutInt answers b, and the eight bytes of n behind it.
func PutInt(b []byte, n int) []byte {
	return putBits(b, uint64(n), intSize)
}

// PutText answers b, and behind it how many bytes s has, and these.
func PutText(b []byte, s string) ([]byte, api.Errno) {
	if len(s) > api.MaxText {
		return nil, api.ErrLimit
	}
	return append(putBits(b, uint64(len(s)), numberSize), s...), api.OK
}

// putBits answers b, and the lowest size bytes of n behind it, the highest first.
// It is always new memory: an append to b might write over what stands behind b in the caller's array.
func putBits(b []byte, n uint64, size int) []byte {
	out := make([]byte, len(b), len(b)+size)
	copy(out, b)
	for i := range size {
		out = append(out, byte(n>>(8*(size-1-i))))
	}
	return out
}

// joinBits is the number that b is as bytes, the highest first.
func joinBits(b []byte) uint64 {
	var n uint64
	for _, x := range b {
		n = n<<8 | uint64(x)
	}
	return n
}

// Reader reads bytes from a place on.
type Reader struct {
	rest rest
}

// New makes a reader of a copy of b, so that the caller may go on writing into b.
func New(b []byte) *Reader {
	own := make(rest, len(b))
	copy(own, b)
	return &Reader{rest: own}
}

// Left tells how many bytes there are from the place on.
func (r *Reader) Left() int {
	if r == nil {
		return 0
	}
	return len(r.rest)
}

// Number reads a number.
func (r *Reader) Number() (int, api.Errno) {
	if r == nil {
		return 0, api.ErrNil
	}
	return readOrStay(&r.rest, r.rest.number)
}

// Int reads an int.
func (r *Reader) Int() (int, api.Errno) {
	if r == nil {
		return 0, api.ErrNil
	}
	return readOrStay(&r.rest, r.rest.int)
}

// Text reads a text.
func (r *Reader) Text() (string, api.Errno) {
	if r == nil {
		return "", api.ErrNil
	}
	return readOrStay(&r.rest, r.rest.text)
}

// readOrStay reads, and puts the place back where that fails: what is wrong shows only behind bytes that are taken already.
func readOrStay[T any](place *rest, read func() (T, api.Errno)) (T, api.Errno) {
	before := *place
	got, e := read()
	if e != api.OK {
		*place = before
	}
	return got, e
}

// rest is the bytes from a reader's place on.
type rest []byte

// take goes on by n bytes, and answers them.
func (b *rest) take(n int) ([]byte, api.Errno) {
	if len(*b) < n {
		return nil, api.ErrCodeEnd
	}
	taken := (*b)[:n]
	*b = (*b)[n:]
	return taken, api.OK
}

func (b *rest) number() (int, api.Errno) {
	taken, e := b.take(numberSize)
	if e != api.OK {
		return 0, e
	}
	if taken[0] > highestFirst {
		return 0, api.ErrCodeForm
	}
	return int(joinBits(taken)), api.OK
}

func (b *rest) int() (int, api.Errno) {
	taken, e := b.take(intSize)
	if e != api.OK {
		return 0, e
	}
	return int(joinBits(taken)), api.OK
}

func (b *rest) text() (string, api.Errno) {
	size, e := b.number()
	if e != api.OK {
		return "", e
	}
	if size > api.MaxText {
		return "", api.ErrCodeForm
	}
	taken, e := b.take(size)
	if e != api.OK {
		return "", e
	}
	return string(taken), api.OK
}
