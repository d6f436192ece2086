package chunk

import (
	"iter"

	"tumulus/api"
)

// count is how many chunks a text of size bytes has.
func count(size int) int {
	return (size + api.MaxChunk - 1) / api.MaxChunk
}

// length is how many bytes the chunk in place i of a text of size bytes has, which must be there.
func length(size, i int) int {
	return min(api.MaxChunk, size-i*api.MaxChunk)
}

// chunks goes through a text's chunks, each with its place.
func chunks(data string) iter.Seq2[int, string] {
	return func(yield func(int, string) bool) {
		for i := range count(len(data)) {
			from := i * api.MaxChunk
			if !yield(i, data[from:from+length(len(data), i)]) {
				return
			}
		}
	}
}
