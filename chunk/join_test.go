package chunk_test

import (
	"slices"
	"strings"
	"testing"

	"tumulus/api"
	"tumulus/chunk"
)

func TestJoin(t *testing.T) {
	for _, size := range sizes() {
		for _, data := range texts(size) {
			m := of(t, data)
			var pieces []string
			for i := range m.Sums {
				piece, _ := chunk.Cut(data, i)
				pieces = append(pieces, piece)
			}
			joined(t, "all chunks", m, pieces, data)
		}
	}
}

// TestJoinEachSize: texts of each size of up to five chunks, and around the greatest one.
func TestJoinEachSize(t *testing.T) {
	data := texts(65536)[4]
	for size := range 65537 {
		if size > 401 && size < 65450 {
			continue
		}
		m := of(t, data[:size])
		joined(t, "all chunks", m, plainCut(data[:size]), data[:size])
	}
}

func TestJoinOfNone(t *testing.T) {
	for _, m := range []chunk.Manifest{{}, {Sums: []int{}}} {
		joined(t, "no pieces", m, nil, "")
		joined(t, "no pieces", m, []string{}, "")
		refused(t, "an empty piece of no text", m, []string{""})
		refused(t, "a piece of no text", m, []string{"a"})
	}
}

// TestJoinOfTooFewOrTooMany: pieces that are missing at either end or within, that come twice, or more than
// there are places.
func TestJoinOfTooFewOrTooMany(t *testing.T) {
	for _, size := range sizes() {
		if size == 0 {
			continue
		}
		for _, data := range texts(size) {
			m, pieces := of(t, data), plainCut(data)
			last := len(pieces) - 1
			refused(t, "no pieces", m, nil)
			refused(t, "all but the first", m, pieces[1:])
			refused(t, "all but the last", m, pieces[:last])
			refused(t, "all but one", m, slices.Delete(slices.Clone(pieces), last/2, last/2+1))
			refused(t, "all and the last", m, append(slices.Clone(pieces), pieces[last]))
			refused(t, "all and the first", m, append([]string{pieces[0]}, pieces...))
			refused(t, "all and an empty one", m, append(slices.Clone(pieces), ""))
			refused(t, "an empty one and all", m, append([]string{""}, pieces...))
			refused(t, "all twice", m, append(slices.Clone(pieces), pieces...))
			if last > 0 {
				refused(t, "the whole as one", m, []string{data})
				refused(t, "all but the last with it at the end", m, append(slices.Clone(pieces[:last-1]), pieces[last-1]+pieces[last]))
			}
		}
	}
}

// TestJoinInAnotherOrder: two chunks that change their places, which are others, are refused.
func TestJoinInAnotherOrder(t *testing.T) {
	for _, size := range []int{81, 160, 161, 240, 500} {
		for _, data := range texts(size) {
			m, pieces := of(t, data), plainCut(data)
			for i := range pieces {
				for k := range i {
					other := slices.Clone(pieces)
					other[i], other[k] = pieces[k], pieces[i]
					if slices.Equal(other, pieces) {
						joined(t, "the same chunks in another order", m, other, data)
					} else {
						refused(t, "chunks in another order", m, other)
					}
				}
			}
		}
	}
}

// TestJoinOfAnotherPiece: one piece that is another one, in whichever place.
func TestJoinOfAnotherPiece(t *testing.T) {
	for _, size := range []int{1, 80, 81, 160, 161, 500} {
		for _, data := range texts(size) {
			m, pieces := of(t, data), plainCut(data)
			for i, p := range pieces {
				for _, other := range []string{"", p[1:], p + "a", "a" + p, p + "\x00", turned(p, 0, 1), turned(p, len(p)-1, 128), strings.Repeat("z", len(p))} {
					list := slices.Clone(pieces)
					list[i] = other
					refused(t, "chunks with another piece", m, list)
				}
			}
		}
	}
}

// TestJoinOfAByteMoved: pieces that make the text, but with other ends.
func TestJoinOfAByteMoved(t *testing.T) {
	data := texts(161)[4]
	m := of(t, data)
	refused(t, "pieces of 79, 80 and 2 bytes", m, []string{data[:79], data[79:159], data[159:]})
	refused(t, "pieces of 81, 79 and 1 bytes", m, []string{data[:81], data[81:160], data[160:]})
	refused(t, "pieces of 1, 80 and 80 bytes", m, []string{data[:1], data[1:81], data[81:]})
	refused(t, "pieces of 80, 81 and no bytes", m, []string{data[:80], data[80:], ""})
}

// TestJoinOfTheSameSum: a piece that is no chunk, but has as many bytes and the same sum, is joined as it is.
func TestJoinOfTheSameSum(t *testing.T) {
	for _, size := range []int{5, 80, 85, 160, 500, 65536} {
		data := texts(size)[4]
		m, pieces := of(t, data), plainCut(data)
		for i := 0; i < len(pieces); i += len(pieces)/7 + 1 {
			if len(pieces[i]) < 5 {
				continue
			}
			list := slices.Clone(pieces)
			list[i] = double(list[i], i%(len(list[i])-4))
			want := strings.Join(list, "")
			joined(t, "another piece of the same sum", m, list, want)
			if got := of(t, want); want == data || !same(got, m) {
				t.Errorf("P10.3: what is joined of %d bytes with another piece has another manifest", size)
			}
		}
	}
}

// TestJoinedHasTheManifest: what is joined has a right manifest's Size and Sums.
func TestJoinedHasTheManifest(t *testing.T) {
	for _, size := range sizes() {
		for _, data := range texts(size) {
			m := of(t, data)
			got, e := chunk.Join(m, plainCut(data))
			if e != api.OK || len(got) != m.Size || !same(of(t, got), m) || !same(plainOf(got), m) {
				t.Errorf("P10.3: what is joined of %d bytes, %q.., has another manifest", size, short(data))
			}
		}
	}
}

// TestJoinByAnotherManifest: chunks of one text by the manifest of another one.
func TestJoinByAnotherManifest(t *testing.T) {
	for _, size := range []int{1, 80, 81, 161, 65536} {
		list := texts(size)
		for _, data := range list {
			for _, other := range list {
				if data != other {
					refused(t, "chunks of another text", of(t, data), plainCut(other))
				}
			}
			refused(t, "chunks of a longer text", of(t, data), plainCut(data+"a"))
			refused(t, "chunks of a shorter text", of(t, data), plainCut(data[1:]))
		}
	}
}
