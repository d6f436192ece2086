package chunk_test

import (
	"math"
	"slices"
	"strings"
	"testing"

	"tumulus/api"
	"tumulus/chunk"
)

func TestCheckOfZero(t *testing.T) {
	for _, m := range []chunk.Manifest{{}, {Sums: []int{}}} {
		if e := chunk.Check(m); e != api.OK {
			t.Errorf("P10.1: Check of no bytes: %d", e)
		}
	}
}

// TestCheckOfEachSize: each Size with as many sums as there are chunks, and with one more or less.
func TestCheckOfEachSize(t *testing.T) {
	sums := make([]int, 821)
	for i := range sums {
		sums[i] = i % 2 * 4294967295
	}
	for size := range 65537 {
		count := 0
		for rest := size; rest > 0; rest -= 80 {
			count++
		}
		for _, n := range []int{count - 1, count, count + 1} {
			if n < 0 {
				continue
			}
			want := api.ErrChunkForm
			if n == count {
				want = api.OK
			}
			if e := chunk.Check(chunk.Manifest{Size: size, Sums: sums[:n]}); e != want {
				t.Fatalf("P10.1: Check of Size %d with %d sums: %d, not %d", size, n, e, want)
			}
		}
	}
}

// wrong looks that a manifest is refused by all that ask one.
func wrong(t *testing.T, m chunk.Manifest, pieces []string) {
	t.Helper()
	if e := chunk.Check(m); e != api.ErrChunkForm {
		t.Errorf("P10.1: Check of Size %d with %d sums: %d", m.Size, len(m.Sums), e)
	}
	for i, piece := range append(slices.Clone(pieces), "", "") {
		if chunk.Fits(m, i, piece) || chunk.Fits(m, i-1, piece) {
			t.Errorf("P10.2: a piece fits in place %d of Size %d with %d sums", i, m.Size, len(m.Sums))
		}
	}
	refused(t, "a manifest that is not right", m, pieces)
	refused(t, "a manifest that is not right, without pieces", m, nil)
	if n := len(m.Sums); n < 1000 {
		refused(t, "a manifest that is not right, as many empty pieces", m, make([]string, n))
	}
}

// TestWrongSize: a Size of no text, or of another one, with all counts of sums that it might be taken for.
func TestWrongSize(t *testing.T) {
	for _, size := range sizes() {
		data := texts(size)[4]
		m, pieces := of(t, data), plainCut(data)
		for _, other := range append(numbers(), -size, size+80, size-80, -size-1, size+1<<32, size-1<<32, size+65537) {
			if other >= 0 && other <= 65536 && len(plainCut(strings.Repeat("x", other))) == len(pieces) {
				continue
			}
			wrong(t, chunk.Manifest{Size: other, Sums: m.Sums}, pieces)
		}
	}
	for _, size := range []int{-1, -2, -79, -80, -81, -159, -160, 65537, 65538, 65600, 65601, math.MaxInt, math.MaxInt - 78,
		math.MaxInt - 79, math.MaxInt - 80, math.MinInt, math.MinInt + 1} {
		for _, count := range []int{0, 1, 2, 819, 820, 821} {
			wrong(t, chunk.Manifest{Size: size, Sums: make([]int, count)}, make([]string, count))
		}
	}
}

// TestWrongCount: too few sums for a Size, or too many, with the pieces of the text, and with as many pieces.
func TestWrongCount(t *testing.T) {
	for _, size := range sizes() {
		data := texts(size)[4]
		m, pieces := of(t, data), plainCut(data)
		more := append(slices.Clone(m.Sums), 0, plainSum("a"), 4294967295)
		for _, n := range []int{0, 1, 2, len(pieces) - 1, len(pieces) + 1, len(pieces) + 2, len(pieces) + 3} {
			if n < 0 || n > len(more) || n == len(pieces) {
				continue
			}
			other := chunk.Manifest{Size: size, Sums: more[:n]}
			wrong(t, other, pieces)
			wrong(t, other, append(slices.Clone(pieces), "\x9d\x0a\xd9\x6d", "a", "\xff\xff\xff\xff")[:n])
		}
	}
	wrong(t, chunk.Manifest{Size: 1}, []string{"a"})
	wrong(t, chunk.Manifest{Size: 65536}, nil)
	wrong(t, chunk.Manifest{Sums: []int{0}}, []string{""})
	wrong(t, chunk.Manifest{Size: 80, Sums: make([]int, 1<<20)}, nil)
}

// TestWrongSum: one number that is no sum, in whichever place; no piece fits then, in no other place either.
func TestWrongSum(t *testing.T) {
	for _, size := range []int{1, 80, 81, 160, 161, 241, 500} {
		data := texts(size)[4]
		m, pieces := of(t, data), plainCut(data)
		for i := range pieces {
			for _, s := range append(wrongSums(), m.Sums[i]+1<<32, m.Sums[i]-1<<32, -m.Sums[i], ^m.Sums[i]) {
				wrong(t, with(m, i, s), pieces)
			}
		}
	}
}

// TestWrongSumOfTheGreatest: the same in all places of the greatest manifest.
func TestWrongSumOfTheGreatest(t *testing.T) {
	m := of(t, texts(65536)[4])
	for i := range m.Sums {
		for _, s := range []int{-1, 1 << 32, math.MaxInt, math.MinInt} {
			if e := chunk.Check(with(m, i, s)); e != api.ErrChunkForm {
				t.Errorf("P10.1: Check of %d in place %d: %d", s, i, e)
			}
		}
		for _, s := range []int{0, 4294967295} {
			if e := chunk.Check(with(m, i, s)); e != api.OK {
				t.Errorf("P10.1: Check of %d in place %d: %d", s, i, e)
			}
		}
	}
}
