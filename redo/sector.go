package redo

import (
	"tumulus/api"
	"tumulus/code"
	"tumulus/sum"
)

const (
	numberSize = 4
	headSize   = 5 * numberSize
	// body is how many bytes of a sector are under its seal.
	body = api.Sector - numberSize
	// room is how many bytes of text a sector has, behind its head and how many there are.
	room = body - headSize - numberSize
)

// kind is what a sector is.
type kind int

const (
	unused kind = iota // all its bytes are 0
	root
	piece // a record's
)

// head is what stands ahead of a sector's text.
type head struct {
	kind   kind
	age    int // the log's when it was written
	number int // the record's; of the root: First
	at     int // which of its record's pieces it is; of the root: where in the ring the first record begins
	size   int // how many bytes its record has; of the root: how many records were safe when it was written
}

// content is what a sector has.
type content struct {
	head
	text string
}

// pieces is how many sectors a record of so many bytes has.
func pieces(size int) int {
	return max(1, (size+room-1)/room)
}

// laid is the sector's bytes.
func (c content) laid() []byte {
	b := numbers(int(c.kind), c.age, c.number, c.at, c.size)
	b = need(code.PutText(b, c.text))
	padded := make([]byte, body)
	copy(padded, b)
	return sum.Seal(padded)
}

// numbers is these as bytes.
func numbers(list ...int) []byte {
	var b []byte
	for _, n := range list {
		b = need(code.PutNumber(b, n))
	}
	return b
}

// readSector is what a sector has by its bytes. A crash leaves no part of a sector: what is not as laid makes it
// is no log's.
func readSector(b []byte) content {
	if blank(b) {
		return content{}
	}
	r := code.New(right(sum.Open(b)))
	number := func() int { return right(r.Number()) }
	c := content{head: head{kind: kind(number()), age: number(), number: number(), at: number(), size: number()}}
	c.text = right(r.Text())
	insist(c.kind != unused && blank(b[body-r.Left():body]))
	return c
}

// blank tells whether all bytes are 0.
func blank(b []byte) bool {
	for _, x := range b {
		if x != 0 {
			return false
		}
	}
	return true
}

// isPiece tells whether it may be a record's piece in a log of that age.
func (c content) isPiece(age int) bool {
	return c.kind == piece && c.age >= 1 && c.age <= age && c.number >= 1 &&
		c.size <= longest && c.at < pieces(c.size) && len(c.text) == min(room, c.size-c.at*room)
}
