package chunk_test

import (
	"slices"
	"strings"
	"testing"
	"unsafe"

	"tumulus/api"
	"tumulus/chunk"
)

// share tells whether two texts lie in one memory, were it a byte.
func share(a, b string) bool {
	if a == "" || b == "" {
		return false
	}
	at, from := uintptr(unsafe.Pointer(unsafe.StringData(a))), uintptr(unsafe.Pointer(unsafe.StringData(b)))
	return at < from+uintptr(len(b)) && from < at+uintptr(len(a))
}

// spoil changes all of a list, its spare memory too.
func spoil(list []int) {
	for i := range list[:cap(list)] {
		list[:cap(list)][i] -= 7
	}
}

// roomy is a list with something behind it, in the same memory.
func roomy[T any](list []T, behind ...T) (whole, part []T) {
	whole = append(slices.Clone(list), behind...)
	return whole, whole[:len(list)]
}

// TestWhatIsHandedInStays: no call changes the sums or the pieces, nor what stands behind them, whatever it
// answers.
func TestWhatIsHandedInStays(t *testing.T) {
	for _, size := range []int{0, 1, 80, 81, 500, 65536} {
		data := texts(size)[4]
		right, list := plainOf(data), plainCut(data)
		for _, size := range []int{right.Size, right.Size + 1, -1, 65537} {
			sums, m := roomy(right.Sums, -5, 4294967296, 3)
			pieces, part := roomy(list, "behind", "it", "")
			sumsBefore, piecesBefore := slices.Clone(sums), slices.Clone(pieces)
			handed := chunk.Manifest{Size: size, Sums: m}
			for range 2 {
				chunk.Check(handed)
				chunk.Join(handed, part)
				chunk.Join(handed, pieces)
				chunk.Join(handed, nil)
				for i, piece := range append(slices.Clone(part), "") {
					chunk.Fits(handed, i, piece)
					chunk.Fits(handed, -i, piece)
				}
			}
			if !slices.Equal(sums, sumsBefore) || !slices.Equal(pieces, piecesBefore) {
				t.Errorf("R2: a call changed what it was handed, of Size %d: %d sums, %d pieces", size, len(m), len(part))
			}
		}
	}
}

// TestSumsAreNew: what is written over in one call's Sums changes no other's, earlier or later.
func TestSumsAreNew(t *testing.T) {
	for _, size := range []int{1, 80, 81, 500, 65536} {
		data := texts(size)[4]
		want := plainOf(data)
		one, two := of(t, data), of(t, data)
		spoil(two.Sums)
		if !same(one, want) {
			t.Errorf("R2: two answers of Of for %d bytes share their Sums", size)
		}
		spoil(one.Sums)
		if !same(of(t, data), want) {
			t.Errorf("R2: Of of %d bytes tells Sums that were written over", size)
		}
	}
}

// TestSumsAreNotKept: a manifest that is changed later changes what is told of it, and of no other one.
func TestSumsAreNotKept(t *testing.T) {
	data := texts(161)[4]
	m, pieces := of(t, data), plainCut(data)
	for range 3 {
		if chunk.Check(m) != api.OK || !chunk.Fits(m, 2, pieces[2]) {
			t.Fatal("R2: a right manifest is not right")
		}
		joined(t, "all chunks", m, pieces, data)
		was := m.Sums[2]
		m.Sums[2] = -1
		wrong(t, m, pieces)
		m.Sums[2] = was ^ 1
		if chunk.Check(m) != api.OK || chunk.Fits(m, 2, pieces[2]) || !chunk.Fits(m, 1, pieces[1]) {
			t.Error("R2: a sum that was changed is told as it was")
		}
		refused(t, "all chunks by another sum", m, pieces)
		m.Sums[2] = was
	}
}

// TestTextsAreNew: a chunk is no part of the text's memory, nor what is joined of the pieces', were it one.
func TestTextsAreNew(t *testing.T) {
	for _, size := range []int{1, 79, 80, 81, 160, 500, 65536} {
		data := strings.Clone(texts(size)[4])
		m, pieces := of(t, data), plainCut(data)
		for i := range pieces {
			one, _ := chunk.Cut(data, i)
			two, _ := chunk.Cut(data, i)
			if share(one, data) || share(one, two) {
				t.Fatalf("R2: chunk %d of %d bytes shares its memory", i, size)
			}
		}
		one, _ := chunk.Join(m, pieces)
		two, _ := chunk.Join(m, pieces)
		if share(one, data) || share(one, two) {
			t.Errorf("R2: what is joined to %d bytes shares its memory", size)
		}
	}
}

// TestCallsHangOnTheirArgumentsAlone: a call that failed, or of another text, leaves nothing behind.
func TestCallsHangOnTheirArgumentsAlone(t *testing.T) {
	data, other := texts(161)[4], texts(240)[3]
	for range 3 {
		m, pieces := of(t, data), plainCut(data)
		chunk.Of(strings.Repeat("a", 65537))
		chunk.Cut(other, 3)
		refused(t, "chunks of another text", m, plainCut(other))
		wrong(t, with(of(t, other), 1, -1), plainCut(other))
		joined(t, "all chunks", m, pieces, data)
		if p, e := chunk.Cut(data, 2); p != pieces[2] || e != api.OK {
			t.Errorf("R2: Cut: %q, %d", p, e)
		}
	}
}
