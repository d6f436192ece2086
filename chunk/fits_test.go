package chunk_test

import (
	"slices"
	"testing"

	"tumulus/api"
	"tumulus/chunk"
)

// TestFits: each chunk in its place, and in the others just if it is the chunk there.
func TestFits(t *testing.T) {
	for _, size := range sizes() {
		if size > 5000 {
			continue
		}
		for _, data := range texts(size) {
			m, pieces := of(t, data), plainCut(data)
			for i := range pieces {
				for k, piece := range pieces {
					if chunk.Fits(m, i, piece) != (piece == pieces[i]) {
						t.Errorf("P10.2: chunk %d of %d bytes, %q.., in place %d", k, size, short(data), i)
					}
				}
			}
		}
	}
}

// TestFitsOfLongTexts: each chunk of long texts in its place, and its neighbours.
func TestFitsOfLongTexts(t *testing.T) {
	for _, size := range []int{65519, 65520, 65521, 65535, 65536} {
		data := texts(size)[4]
		m, pieces := of(t, data), plainCut(data)
		for i := range pieces {
			for k := max(i-1, 0); k < min(i+2, len(pieces)); k++ {
				if chunk.Fits(m, i, pieces[k]) != (k == i) {
					t.Errorf("P10.2: chunk %d of %d bytes in place %d", k, size, i)
				}
			}
		}
	}
}

// TestFitsOfExtremes: sums that are the least or the greatest, of a piece that has them and of another one.
func TestFitsOfExtremes(t *testing.T) {
	least, greatest := "\x9d\x0a\xd9\x6d", "\xff\xff\xff\xff"
	for _, x := range []struct {
		sum   int
		piece string
		want  bool
	}{{0, least, true}, {0, greatest, false}, {4294967295, greatest, true}, {4294967295, least, false}} {
		if chunk.Fits(chunk.Manifest{Size: 4, Sums: []int{x.sum}}, 0, x.piece) != x.want {
			t.Errorf("P10.2: Fits of %q under %d", x.piece, x.sum)
		}
	}
}

// TestFitsNotTurned: no piece fits of which one byte is another one.
func TestFitsNotTurned(t *testing.T) {
	for _, size := range []int{1, 4, 80, 81, 160, 200} {
		for _, data := range texts(size) {
			m := of(t, data)
			for i, piece := range plainCut(data) {
				for at := range piece {
					for bits := 1; bits < 256; bits++ {
						if chunk.Fits(m, i, turned(piece, at, byte(bits))) {
							t.Fatalf("P10.2: chunk %d of %d bytes fits with byte %d turned by %d", i, size, at, bits)
						}
					}
				}
			}
		}
	}
}

// TestFitsNotLonger: no piece fits that has a byte more or less, at either end, or no byte.
func TestFitsNotLonger(t *testing.T) {
	for _, size := range sizes() {
		for _, data := range texts(size) {
			m, pieces := of(t, data), plainCut(data)
			for i := 0; i < len(pieces); i += len(pieces)/5 + 1 {
				p := pieces[i]
				for _, other := range []string{"", p[1:], p[:len(p)-1], p + "a", "a" + p, p + "\x00", "\x00" + p, p + p, data + data} {
					if chunk.Fits(m, i, other) {
						t.Errorf("P10.2: %d bytes fit in place %d of %d bytes, %q..", len(other), i, size, short(data))
					}
				}
			}
		}
	}
}

// TestFitsNotOfOtherLength: a piece of another length that has the sum in this place does not fit.
func TestFitsNotOfOtherLength(t *testing.T) {
	for size := 1; size <= 161; size++ {
		lengths, _ := plainLengths(size)
		for n := range 163 {
			piece := texts(n)[4]
			m := chunk.Manifest{Size: size, Sums: slices.Repeat([]int{plainSum(piece)}, len(lengths))}
			for i, length := range lengths {
				if chunk.Fits(m, i, piece) != (n == length) {
					t.Errorf("P10.2: a piece of %d bytes in place %d of Size %d", n, i, size)
				}
			}
		}
	}
}

func TestFitsInNoPlace(t *testing.T) {
	for _, size := range sizes() {
		data := texts(size)[0]
		m, pieces := of(t, data), plainCut(data)
		count := len(pieces)
		for _, i := range append(numbers(), count, count+1, -count, size) {
			if i >= 0 && i < count {
				continue
			}
			for _, piece := range append([]string{"", "\x00"}, pieces[:min(count, 1)]...) {
				if chunk.Fits(m, i, piece) {
					t.Errorf("P10.2: %d bytes fit in place %d of %d bytes", len(piece), i, size)
				}
			}
			if count > 0 && chunk.Fits(m, i, pieces[count-1]) {
				t.Errorf("P10.2: the last chunk fits in place %d of %d bytes", i, size)
			}
		}
	}
}

// TestFitsOfTheSameSum: another piece of as many bytes fits just if it has the same sum.
func TestFitsOfTheSameSum(t *testing.T) {
	for _, size := range []int{5, 79, 80, 85, 165, 65536} {
		data := texts(size)[4]
		m := of(t, data)
		for i, piece := range plainCut(data) {
			at := (i * 7) % (len(piece) - 4)
			other := double(piece, at)
			if other == piece || !chunk.Fits(m, i, other) {
				t.Errorf("P10.2, P10.3: a piece with the sum of chunk %d of %d bytes does not fit", i, size)
			}
			if chunk.Fits(m, i, turned(other, at, 1)) {
				t.Errorf("P10.2: a piece with another sum than chunk %d of %d bytes fits", i, size)
			}
		}
	}
}

// TestFitsAsksNoMore: what fits hangs on the place's sum, not on whether the manifest is of a text.
func TestFitsAsksNoMore(t *testing.T) {
	m := chunk.Manifest{Size: 161, Sums: []int{0, 4294967295, plainSum("a")}}
	if e := chunk.Check(m); e != api.OK || !chunk.Fits(m, 2, "a") || chunk.Fits(m, 1, "a") || chunk.Fits(m, 0, "a") {
		t.Errorf("P10.2: %d", e)
	}
}
