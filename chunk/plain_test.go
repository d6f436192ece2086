package chunk_test

import (
	"hash/crc32"
	"math"
	"slices"
	"strings"
	"testing"

	"tumulus/api"
	"tumulus/chunk"
)

// plainCut is all chunks of a text, told by its words alone.
func plainCut(data string) []string {
	var pieces []string
	for len(data) > 80 {
		pieces, data = append(pieces, data[:80]), data[80:]
	}
	if data != "" {
		pieces = append(pieces, data)
	}
	return pieces
}

// plainSum is the library's sum, that is as chapter 2's.
func plainSum(piece string) int {
	return int(crc32.ChecksumIEEE([]byte(piece)))
}

// plainOf is the manifest of a text that is not too long.
func plainOf(data string) chunk.Manifest {
	m := chunk.Manifest{Size: len(data)}
	for _, piece := range plainCut(data) {
		m.Sums = append(m.Sums, plainSum(piece))
	}
	return m
}

// plainLengths is how many bytes each chunk of a text of size bytes has, and whether there is such a text.
func plainLengths(size int) ([]int, bool) {
	if size < 0 || size > 65536 {
		return nil, false
	}
	var lengths []int
	for _, piece := range plainCut(strings.Repeat("x", size)) {
		lengths = append(lengths, len(piece))
	}
	return lengths, true
}

func plainRight(m chunk.Manifest) bool {
	lengths, is := plainLengths(m.Size)
	if !is || len(lengths) != len(m.Sums) {
		return false
	}
	for _, s := range m.Sums {
		if s != int(uint32(s)) {
			return false
		}
	}
	return true
}

func plainFits(m chunk.Manifest, i int, piece string) bool {
	lengths, _ := plainLengths(m.Size)
	return plainRight(m) && i >= 0 && i < len(lengths) && len(piece) == lengths[i] && plainSum(piece) == m.Sums[i]
}

func plainJoin(m chunk.Manifest, pieces []string) (string, api.Errno) {
	if !plainRight(m) || len(pieces) != len(m.Sums) {
		return "", api.ErrChunkForm
	}
	lengths, _ := plainLengths(m.Size)
	for i, piece := range pieces {
		if len(piece) != lengths[i] || plainSum(piece) != m.Sums[i] {
			return "", api.ErrChunkForm
		}
	}
	return strings.Join(pieces, ""), api.OK
}

// dice are numbers that look drawn, and are the same each time.
type dice uint64

func (d *dice) below(n int) int {
	*d = *d*6364136223846793005 + 1442695040888963407
	return int(uint64(*d) >> 33 % uint64(n))
}

// text is a drawn text, of any bytes.
func (d *dice) text(size int) string {
	b := make([]byte, size)
	for i := range b {
		b[i] = byte(d.below(256))
	}
	return string(b)
}

// sizes are those around a chunk's end, and the greatest.
func sizes() []int {
	return []int{0, 1, 2, 4, 5, 79, 80, 81, 159, 160, 161, 239, 240, 241, 5000, 65519, 65520, 65521, 65535, 65536}
}

// tooLong are sizes of which there is no manifest.
func tooLong() []int {
	return []int{65537, 65538, 65599, 65600, 65601, 65616, 131072, 1 << 20}
}

// numbers are wrong ones in most places, with some that are right in one or the other.
func numbers() []int {
	return []int{0, 1, 2, -1, -2, 80, 81, 819, 820, 65536, 65537, -65536, 1<<31 - 1, 1 << 31, 1<<32 - 1, 1 << 32,
		1<<32 + 1, -1 << 32, -1<<32 + 1, 1 << 60, 1<<60 + 1, math.MaxInt, math.MaxInt - 1, math.MaxInt - 79,
		math.MinInt, math.MinInt + 1}
}

// wrongSums are numbers that are no sums, some with 32 bits that one may have.
func wrongSums() []int {
	return []int{-1, -2, 1 << 32, 1<<32 + 1, 1<<33 - 1, -1 << 32, -1<<32 + 1, math.MaxInt, math.MinInt, math.MinInt + 1}
}

// texts are texts of so many bytes: of bytes 0, of bytes that are no letters, of letters, of drawn bytes.
func texts(size int) []string {
	d := dice(size)
	return []string{
		strings.Repeat("\x00", size),
		strings.Repeat("\xff", size),
		strings.Repeat("0123456789", size/10+1)[:size],
		strings.Repeat("\xc3\xa4\x00\x80", size/4+1)[:size],
		d.text(size),
	}
}

// copied is a manifest that shares nothing with m.
func copied(m chunk.Manifest) chunk.Manifest {
	return chunk.Manifest{Size: m.Size, Sums: slices.Clone(m.Sums)}
}

// with is m with another number in place i of its sums.
func with(m chunk.Manifest, i, number int) chunk.Manifest {
	m = copied(m)
	m.Sums[i] = number
	return m
}

func same(a, b chunk.Manifest) bool {
	return a.Size == b.Size && slices.Equal(a.Sums, b.Sums)
}

// turned is a piece with other bits in its byte in place at.
func turned(piece string, at int, bits byte) string {
	b := []byte(piece)
	b[at] ^= bits
	return string(b)
}

// double is another piece of as many bytes and the same sum: five neighbours have other bits, those of the
// number by which a sum is made, and the one that falls out ahead of them.
func double(piece string, at int) string {
	bits := uint64(3988292384)<<1 | 1
	for i := range 5 {
		piece = turned(piece, at+i, byte(bits>>(8*i)))
	}
	return piece
}

// short is the beginning of a text, for what a test says.
func short(s string) string {
	return s[:min(len(s), 12)]
}

// of is a text's manifest, which there must be.
func of(t *testing.T, data string) chunk.Manifest {
	t.Helper()
	m, e := chunk.Of(data)
	if e != api.OK {
		t.Fatalf("P10.1: Of of %d bytes: %d", len(data), e)
	}
	return m
}

// refused looks that Join refuses pieces, with nothing beside the error.
func refused(t *testing.T, what string, m chunk.Manifest, pieces []string) {
	t.Helper()
	if got, e := chunk.Join(m, pieces); got != "" || e != api.ErrChunkForm {
		t.Errorf("P10.2, R1: Join of %s: %q.., %d", what, short(got), e)
	}
}

// joined looks that Join joins pieces to a text.
func joined(t *testing.T, what string, m chunk.Manifest, pieces []string, want string) {
	t.Helper()
	if got, e := chunk.Join(m, pieces); got != want || e != api.OK {
		t.Errorf("P10.2: Join of %s: %d bytes, %q.., %d", what, len(got), short(got), e)
	}
}
