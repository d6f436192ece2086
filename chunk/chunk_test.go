package chunk_test

import (
	"strings"
	"testing"

	"tumulus/api"
	"tumulus/chunk"
)

func TestExamples(t *testing.T) {
	none, e := chunk.Of("")
	if none.Size != 0 || len(none.Sums) != 0 || e != api.OK {
		t.Errorf("P10.1: Of(none): %v, %d", none, e)
	}
	s := strings.Repeat("0123456789", 8) + "x"
	m, e := chunk.Of(s)
	if m.Size != 81 || len(m.Sums) != 2 || e != api.OK {
		t.Errorf("P10.1: Of(81 bytes): %v, %d", m, e)
	}
	if p, e := chunk.Cut(s, 1); p != "x" || e != api.OK {
		t.Errorf("P10.1: Cut(81 bytes, 1): %q, %d", p, e)
	}
	if p, e := chunk.Cut(s, 2); p != "" || e != api.ErrChunkForm {
		t.Errorf("P10.1: Cut(81 bytes, 2): %q, %d", p, e)
	}
	if p, e := chunk.Cut("", 0); p != "" || e != api.ErrChunkForm {
		t.Errorf("P10.1: Cut(none, 0): %q, %d", p, e)
	}
	if got, e := chunk.Join(none, nil); got != "" || e != api.OK {
		t.Errorf("P10.2: Join(Of(none), none): %q, %d", got, e)
	}
	refused(t, "Of(81 bytes), one piece", m, []string{s[:80]})
	joined(t, "Of(81 bytes), both pieces", m, []string{s[:80], "x"}, s)
}

// TestOfIsWrittenOut: manifests whose sums hang on no other program.
func TestOfIsWrittenOut(t *testing.T) {
	for _, x := range []struct {
		data string
		want chunk.Manifest
	}{
		{"a", chunk.Manifest{Size: 1, Sums: []int{3904355907}}},
		{"123456789", chunk.Manifest{Size: 9, Sums: []int{3421780262}}},
		{"\x00", chunk.Manifest{Size: 1, Sums: []int{3523407757}}},
		{"\xff\xff\xff\xff", chunk.Manifest{Size: 4, Sums: []int{4294967295}}},
		{"\x9d\x0a\xd9\x6d", chunk.Manifest{Size: 4, Sums: []int{0}}},
		{strings.Repeat("a", 160), chunk.Manifest{Size: 160, Sums: []int{446270845, 446270845}}},
		{strings.Repeat("a", 161), chunk.Manifest{Size: 161, Sums: []int{446270845, 446270845, 3904355907}}},
	} {
		if m, e := chunk.Of(x.data); !same(m, x.want) || e != api.OK {
			t.Errorf("P10.1: Of of %q..: %v, %d, not %v", short(x.data), m, e, x.want)
		}
	}
}

func TestOf(t *testing.T) {
	for _, size := range sizes() {
		for _, data := range texts(size) {
			m, e := chunk.Of(data)
			if want := plainOf(data); !same(m, want) || e != api.OK {
				t.Errorf("P10.1: Of of %d bytes, %q..: Size %d, %d sums, %d", size, short(data), m.Size, len(m.Sums), e)
			}
			if e := chunk.Check(m); e != api.OK {
				t.Errorf("P10.1: Check of the manifest of %d bytes: %d", size, e)
			}
		}
	}
}

// TestOfEachSize: of each text of up to five chunks, and around the greatest one.
func TestOfEachSize(t *testing.T) {
	data := texts(65536)[4]
	for size := range 65537 {
		if size > 401 && size < 65300 {
			continue
		}
		if m, e := chunk.Of(data[:size]); !same(m, plainOf(data[:size])) || e != api.OK {
			t.Errorf("P10.1: Of of %d bytes: Size %d, %d sums, %d", size, m.Size, len(m.Sums), e)
		}
	}
}

func TestOfTooLong(t *testing.T) {
	for _, size := range tooLong() {
		for _, data := range texts(size) {
			if m, e := chunk.Of(data); m.Size != 0 || m.Sums != nil || e != api.ErrChunkForm {
				t.Errorf("P10.1, R1: Of of %d bytes: Size %d, %d sums, %d", size, m.Size, len(m.Sums), e)
			}
		}
	}
}

func TestCut(t *testing.T) {
	for _, size := range sizes() {
		for _, data := range texts(size) {
			for i, want := range plainCut(data) {
				if p, e := chunk.Cut(data, i); p != want || e != api.OK {
					t.Fatalf("P10.1: Cut of %d bytes, %q.., in place %d: %d bytes, %q.., %d", size, short(data), i, len(p), short(p), e)
				}
			}
		}
	}
}

// TestCutsMakeTheText: the chunks of a text, one behind the other, are the text, each of 80 bytes but the
// last one, and Of tells of each its sum.
func TestCutsMakeTheText(t *testing.T) {
	for _, size := range sizes() {
		for _, data := range texts(size) {
			m := of(t, data)
			var whole strings.Builder
			for i := range m.Sums {
				p, e := chunk.Cut(data, i)
				if e != api.OK || m.Sums[i] != plainSum(p) {
					t.Fatalf("P10.1: chunk %d of %d bytes: %d", i, size, e)
				}
				if last := i == len(m.Sums)-1; !last && len(p) != 80 || last && (len(p) < 1 || len(p) > 80) {
					t.Fatalf("P10.1: chunk %d of %d bytes has %d", i, size, len(p))
				}
				whole.WriteString(p)
			}
			if whole.String() != data {
				t.Errorf("P10.1: the chunks of %d bytes, %q.., are another text", size, short(data))
			}
		}
	}
}

// TestCutEachLast: of each size the last chunk, and none behind it.
func TestCutEachLast(t *testing.T) {
	data := texts(65536)[4]
	for size := 1; size <= 65536; size++ {
		last := (size - 1) / 80
		if p, e := chunk.Cut(data[:size], last); p != data[last*80:size] || e != api.OK {
			t.Fatalf("P10.1: Cut of %d bytes in place %d: %d bytes, %d", size, last, len(p), e)
		}
		if p, e := chunk.Cut(data[:size], last+1); p != "" || e != api.ErrChunkForm {
			t.Fatalf("P10.1: Cut of %d bytes in place %d: %d bytes, %d", size, last+1, len(p), e)
		}
	}
}

func TestCutInNoPlace(t *testing.T) {
	for _, size := range sizes() {
		data := texts(size)[2]
		count := len(plainCut(data))
		for _, i := range append(numbers(), count, count+1, -count, -count-1, size, 80*count) {
			if i >= 0 && i < count {
				continue
			}
			if p, e := chunk.Cut(data, i); p != "" || e != api.ErrChunkForm {
				t.Errorf("P10.1, R1: Cut of %d bytes in place %d: %q, %d", size, i, p, e)
			}
		}
	}
}

func TestCutTooLong(t *testing.T) {
	for _, size := range tooLong() {
		for _, data := range texts(size) {
			for _, i := range append(numbers(), 818, 821) {
				if p, e := chunk.Cut(data, i); p != "" || e != api.ErrChunkForm {
					t.Errorf("P10.1, R1: Cut of %d bytes in place %d: %q, %d", size, i, p, e)
				}
			}
		}
	}
}
