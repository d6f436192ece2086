package pheap

import (
	"bytes"
	"slices"
	"strings"

	"tumulus/api"
	"tumulus/heap"
	"tumulus/image"
)

// What a record is, its first byte tells.
const (
	operation = "o" // one that counted
	part      = "p" // of an image, of which more comes
	last      = "l" // of an image, of which all has come then
)

// longest is how many bytes a record has, at most.
const longest = 1024

// group is how many bytes are packed as one: a number has as many, an int twice as many.
const group = 4

// pieces is a heap's image as records.
func pieces(h api.Heap) []string {
	b, _ := image.PutHeap(h)
	var list []string
	for p := range slices.Chunk(pack(b), longest-len(part)) {
		list = append(list, part+string(p))
	}
	end := len(list) - 1
	list[end] = last + strings.TrimPrefix(list[end], part)
	return list
}

// imaged is the heap of the image with which the records begin, and what comes behind that; or that there is
// none.
func imaged(records []string) (h api.Heap, rest []string, right bool) {
	var packed strings.Builder
	for i, r := range records {
		p, ends := strings.CutPrefix(r, last)
		if ends {
			packed.WriteString(p)
			h, e := image.GetHeap(unpack(packed.String()))
			right = e == api.OK && slices.Equal(pieces(h), records[:i+1])
			return h, records[i+1:], right
		}
		packed.WriteString(strings.TrimPrefix(r, part))
	}
	return api.Heap{}, nil, false
}

// redone is what the operations with which the records begin make of a heap, and what comes behind them; or
// that no heap has left them.
func redone(h api.Heap, records []string) (made api.Heap, rest []string, right bool) {
	for i, r := range records {
		text, is := strings.CutPrefix(r, operation)
		if !is {
			return h, records[i:], true
		}
		o, e := image.GetOp([]byte(text))
		next, result := heap.Do(h, o)
		if e != api.OK || !counts(o, result) || i == batch {
			return api.Heap{}, nil, false
		}
		h = next
	}
	return h, nil, true
}

// pack leaves out, of each group of bytes, those in front that are 0, and tells how many are left. An image has
// up to 4124 bytes, of 256 objects without words: two such are more than the log takes. Packed it has up to
// 2575, of 8 objects of 31 words that are below 0: the log takes twice as many, and a batch.
func pack(b []byte) []byte {
	var packed []byte
	for g := range slices.Chunk(b, group) {
		left := bytes.TrimLeft(g, "\x00")
		packed = append(packed, byte(len(left)))
		packed = append(packed, left...)
	}
	return packed
}

// unpack is what was packed; nothing, if that doesn't read so.
func unpack(packed string) []byte {
	var b []byte
	for len(packed) > 0 {
		n := int(packed[0])
		packed = packed[1:]
		if n > group || n > len(packed) {
			return nil
		}
		b = append(b, make([]byte, group-n)...)
		b = append(b, packed[:n]...)
		packed = packed[n:]
	}
	return b
}
