package chunk_test

import (
	"slices"
	"strings"
	"testing"

	"tumulus/api"
	"tumulus/chunk"
)

// drawnText is mostly of few chunks, seldom long, and often of chunks of which some are the same.
func drawnText(d *dice) string {
	size := d.below(400)
	switch d.below(20) {
	case 0:
		size = 80 * d.below(6)
	case 1:
		size = 65500 + d.below(37)
	}
	if d.below(3) == 0 {
		return strings.Repeat(string(rune('a'+d.below(2))), size)
	}
	return d.text(size)
}

// drawnManifest is m, or one that has something else in one place or two.
func drawnManifest(d *dice, m chunk.Manifest) chunk.Manifest {
	m = copied(m)
	for range d.below(3) {
		count := len(m.Sums)
		switch d.below(8) {
		case 0:
			m.Size = numbers()[d.below(len(numbers()))]
		case 1:
			m.Size += d.below(5) - 2
		case 2:
			m.Sums = append(m.Sums, d.below(1<<31))
		case 3:
			m.Sums = m.Sums[:max(count-1, 0)]
		case 4, 5:
			if count > 0 {
				m.Sums[d.below(count)] = numbers()[d.below(len(numbers()))]
			}
		case 6:
			if count > 1 {
				i, k := d.below(count), d.below(count)
				m.Sums[i], m.Sums[k] = m.Sums[k], m.Sums[i]
			}
		}
	}
	return m
}

// drawnPiece is a piece, or another one that is nearly it.
func drawnPiece(d *dice, piece string) string {
	switch d.below(6) {
	case 0:
		return piece + string([]byte{byte(d.below(256))})
	case 1:
		return piece[min(1, len(piece)):]
	case 2:
		if len(piece) > 4 {
			return double(piece, d.below(len(piece)-4))
		}
	case 3:
		if piece != "" {
			return turned(piece, d.below(len(piece)), byte(d.below(256)))
		}
	case 4:
		return d.text(d.below(100))
	}
	return piece
}

// drawnPieces are pieces, of which one or two may be others, be gone, come twice or in another order.
func drawnPieces(d *dice, pieces []string) []string {
	pieces = slices.Clone(pieces)
	for range d.below(3) {
		count := len(pieces)
		if count == 0 {
			return append(pieces, drawnPiece(d, ""))
		}
		i, k := d.below(count), d.below(count)
		switch d.below(6) {
		case 0:
			pieces = slices.Delete(pieces, i, i+1)
		case 1:
			pieces = slices.Insert(pieces, i, pieces[k])
		case 2:
			pieces[i], pieces[k] = pieces[k], pieces[i]
		case 3, 4:
			pieces[i] = drawnPiece(d, pieces[i])
		}
	}
	return pieces
}

// asked looks that all calls answer of this manifest, text and pieces as the plain ones do.
func asked(t *testing.T, d *dice, m chunk.Manifest, data string, pieces []string) api.Errno {
	t.Helper()
	if e := chunk.Check(m); (e == api.OK) != plainRight(m) || e != api.OK && e != api.ErrChunkForm {
		t.Fatalf("P10.1: Check of Size %d with %d sums: %d", m.Size, len(m.Sums), e)
	}
	cut := plainCut(data)
	for range 4 {
		i := d.below(len(cut)+3) - 1
		p, e := chunk.Cut(data, i)
		if i < 0 || i >= len(cut) {
			if p != "" || e != api.ErrChunkForm {
				t.Fatalf("P10.1: Cut of %d bytes in place %d: %q, %d", len(data), i, p, e)
			}
		} else if p != cut[i] || e != api.OK {
			t.Fatalf("P10.1: Cut of %d bytes in place %d: %q, %d", len(data), i, p, e)
		}
		i = d.below(len(pieces)+3) - 1
		piece := drawnPiece(d, append(slices.Clone(pieces), "a")[d.below(len(pieces)+1)])
		if i >= 0 && i < len(pieces) && d.below(2) == 0 {
			piece = pieces[i]
		}
		if chunk.Fits(m, i, piece) != plainFits(m, i, piece) {
			t.Fatalf("P10.2: Fits of Size %d with %d sums, in place %d: %q", m.Size, len(m.Sums), i, piece)
		}
	}
	got, e := chunk.Join(m, pieces)
	if want, as := plainJoin(m, pieces); got != want || e != as {
		t.Fatalf("P10.2: Join of Size %d with %d sums, of %d pieces: %d bytes, %d, not %d bytes, %d", m.Size, len(m.Sums), len(pieces), len(got), e, len(want), as)
	}
	if e == api.OK && !same(of(t, got), m) {
		t.Fatalf("P10.3: what is joined of %d pieces has another manifest", len(pieces))
	}
	return e
}

// TestWalk: drawn manifests, texts and pieces answer as the plain ones do; many are joined, and many refused.
func TestWalk(t *testing.T) {
	d := dice(10)
	count := map[api.Errno]int{}
	for range 8000 {
		data := drawnText(&d)
		m := of(t, data)
		if !same(m, plainOf(data)) {
			t.Fatalf("P10.1: Of of %d bytes: Size %d, %d sums", len(data), m.Size, len(m.Sums))
		}
		count[asked(t, &d, drawnManifest(&d, m), data, drawnPieces(&d, plainCut(data)))]++
	}
	if count[api.OK] < 1000 || count[api.ErrChunkForm] < 1000 {
		t.Errorf("what is drawn is one-sided: %v", count)
	}
}

// TestAnything: nothing panics, whatever comes in, and what is refused is refused by all.
func TestAnything(t *testing.T) {
	pieces := []string{"", "\x00", "a", strings.Repeat("a", 80), strings.Repeat("\xff", 81), strings.Repeat("b", 1<<20)}
	sums := [][]int{nil, {}, {0}, numbers(), wrongSums(), make([]int, 819), make([]int, 820), make([]int, 70000)}
	for _, piece := range pieces {
		for _, i := range numbers() {
			chunk.Cut(piece, i)
		}
	}
	for _, size := range numbers() {
		for _, list := range sums {
			m := chunk.Manifest{Size: size, Sums: list}
			right := chunk.Check(m) == api.OK
			if right != plainRight(m) {
				t.Errorf("P10.1: Check of Size %d with %d sums", size, len(list))
			}
			for _, i := range numbers() {
				for _, piece := range pieces {
					if chunk.Fits(m, i, piece) && !right {
						t.Errorf("P10.2: a piece fits in place %d of Size %d with %d sums", i, size, len(list))
					}
				}
			}
			for n := range pieces {
				chunk.Join(m, pieces[n:])
				chunk.Join(m, pieces[:n])
			}
			chunk.Join(m, make([]string, len(list)))
			chunk.Join(m, make([]string, 70000))
		}
	}
}
