package sum_test

import (
	"bytes"
	"hash/crc32"
	"math"
	"slices"
	"strings"
	"testing"

	"tumulus/api"
	"tumulus/sum"
)

// sums are written out, so that they hang on no other program.
func sums() map[string]int {
	return map[string]int{
		"":                      0,
		"123456789":             3421780262,
		"a":                     3904355907,
		"\x00":                  3523407757,
		"\x01":                  2768625435,
		"\x80":                  1069182125,
		"\xff":                  4278190080,
		"\xff\xff\xff\xff":      4294967295,
		"\x00\x00\x00\x00":      558161692,
		strings.Repeat("x", 64): 986885138,
	}
}

// rows are bytes of many lengths, with every byte among them, and rows that differ by zeros alone.
func rows() [][]byte {
	var all [][]byte
	x := uint32(1)
	for _, n := range []int{0, 1, 2, 3, 4, 5, 7, 8, 9, 63, 64, 65, 255, 256, 257, 1000, 65536} {
		row := make([]byte, n)
		for i := range row {
			x = x*1664525 + 1013904223
			row[i] = byte(x >> 24)
		}
		all = append(all, row, make([]byte, n), bytes.Repeat([]byte{255}, n))
	}
	every := make([]byte, 256)
	for i := range every {
		every[i] = byte(i)
	}
	return append(all, every, []byte("123456789"), []byte("a text"))
}

// short tells a row's beginning, for what a test says.
func short(b []byte) []byte {
	return b[:min(len(b), 12)]
}

func TestSumIsWrittenOut(t *testing.T) {
	for s, want := range sums() {
		if n := sum.Sum([]byte(s)); n != want {
			t.Errorf("P2.1: Sum of %q = %d, not %d", s, n, want)
		}
	}
}

func TestSumOfOneByteEach(t *testing.T) {
	for x := range 256 {
		for _, b := range [][]byte{{byte(x)}, {0, byte(x)}, {byte(x), 0}, {'a', byte(x), 'b'}} {
			if n, want := sum.Sum(b), int(crc32.ChecksumIEEE(b)); n != want {
				t.Errorf("P2.1: Sum of % x = %d, not %d", b, n, want)
			}
		}
	}
}

func TestSumOfRows(t *testing.T) {
	if n := sum.Sum(nil); n != 0 {
		t.Errorf("P2.1: Sum of none = %d", n)
	}
	for _, b := range rows() {
		if n, want := sum.Sum(b), int(crc32.ChecksumIEEE(b)); n != want {
			t.Errorf("P2.1: Sum of %d bytes, % x.. = %d, not %d", len(b), short(b), n, want)
		}
	}
}

func TestMoreInParts(t *testing.T) {
	for _, b := range rows() {
		if len(b) > 300 {
			continue
		}
		for at := range len(b) + 1 {
			n, e := sum.More(sum.Sum(b[:at]), b[at:])
			if e != api.OK || n != sum.Sum(b) {
				t.Errorf("P2.1: % x.. parted at %d: %d, %d", short(b), at, n, e)
			}
		}
	}
}

func TestMoreByteByByte(t *testing.T) {
	for _, b := range rows() {
		got := 0
		for i := range b {
			var e api.Errno
			if got, e = sum.More(got, b[i:i+1]); e != api.OK {
				t.Fatalf("P2.1: %d bytes, at %d: %d", len(b), i, e)
			}
		}
		if got != sum.Sum(b) {
			t.Errorf("P2.1: %d bytes, byte by byte: %d, not %d", len(b), got, sum.Sum(b))
		}
	}
}

func TestMoreOfTheExample(t *testing.T) {
	n, e := sum.More(sum.Sum([]byte("1234")), []byte("56789"))
	if n != 3421780262 || e != api.OK {
		t.Errorf("P2.1: %d, %d", n, e)
	}
}

// edges are the least sums, the greatest, and some between.
var edges = []int{0, 1, 2, 255, 256, 65536, 2147483647, 2147483648, 3421780262, 4294967294, 4294967295}

func TestMoreOfEachSum(t *testing.T) {
	for _, from := range edges {
		for _, b := range [][]byte{nil, {}} {
			if n, e := sum.More(from, b); n != from || e != api.OK {
				t.Errorf("P2.1: More of %d and none = %d, %d", from, n, e)
			}
		}
		for _, b := range rows() {
			n, e := sum.More(from, b)
			if want := int(crc32.Update(uint32(from), crc32.IEEETable, b)); n != want || e != api.OK {
				t.Errorf("P2.1: More of %d and % x.. = %d, %d, not %d", from, short(b), n, e, want)
			}
		}
	}
}

func TestMoreOfNoSum(t *testing.T) {
	for _, from := range []int{-1, -2, -4294967296, 4294967296, 4294967297, 8589934591, math.MaxInt, math.MinInt, math.MinInt + 1} {
		for _, b := range [][]byte{nil, {0}, []byte("56789")} {
			if n, e := sum.More(from, b); n != 0 || e != api.ErrArg {
				t.Errorf("P2.1, R1: More of %d and %q = %d, %d", from, b, n, e)
			}
		}
	}
}

func TestSealIsWrittenOut(t *testing.T) {
	for s, want := range map[string]string{
		"":                 "\x00\x00\x00\x00",
		"123456789":        "123456789\xcb\xf4\x39\x26",
		"a":                "a\xe8\xb7\xbe\x43",
		"\x00":             "\x00\xd2\x02\xef\x8d",
		"\xff\xff\xff\xff": "\xff\xff\xff\xff\xff\xff\xff\xff",
	} {
		if got := sum.Seal([]byte(s)); string(got) != want {
			t.Errorf("P2.2: Seal of %q = %q", s, got)
		}
	}
	if got := sum.Seal(nil); string(got) != "\x00\x00\x00\x00" {
		t.Errorf("P2.2: Seal of none = %q", got)
	}
}

func TestSealAndOpen(t *testing.T) {
	for _, b := range rows() {
		n := sum.Sum(b)
		want := append(slices.Clone(b), byte(n>>24), byte(n>>16), byte(n>>8), byte(n))
		sealed := sum.Seal(b)
		if !bytes.Equal(sealed, want) {
			t.Errorf("P2.2: Seal of %d bytes, % x..", len(b), short(b))
		}
		if got, e := sum.Open(sealed); !bytes.Equal(got, b) || e != api.OK {
			t.Errorf("P2.2, P2.3: Open of %d sealed bytes, % x..: %d", len(b), short(b), e)
		}
	}
}

// What is sealed twice is opened twice: a seal is bytes like others.
func TestSealOfSealed(t *testing.T) {
	twice := sum.Seal(sum.Seal([]byte("ab")))
	once, e := sum.Open(twice)
	if e != api.OK || !bytes.Equal(once, sum.Seal([]byte("ab"))) {
		t.Errorf("P2.3: %q, %d", once, e)
	}
	if b, e := sum.Open(once); string(b) != "ab" || e != api.OK {
		t.Errorf("P2.3: %q, %d", b, e)
	}
}

// shut looks that Open refuses b, with nothing beside the error.
func shut(t *testing.T, promise string, b []byte) {
	t.Helper()
	if got, e := sum.Open(b); e != api.ErrSumBad || got != nil {
		t.Errorf("%s: Open of % x: %q, %d", promise, b, got, e)
	}
}

func TestOpenOfFewerThanFour(t *testing.T) {
	shut(t, "P2.2", nil)
	for _, fill := range []byte{0, 1, 255} {
		for n := range 4 {
			shut(t, "P2.2", bytes.Repeat([]byte{fill}, n))
		}
	}
}

func TestOpenOfFour(t *testing.T) {
	if got, e := sum.Open([]byte{0, 0, 0, 0}); len(got) != 0 || e != api.OK {
		t.Errorf("P2.2: %q, %d", got, e)
	}
	for i := range 4 {
		for x := 1; x < 256; x++ {
			b := make([]byte, 4)
			b[i] = byte(x)
			shut(t, "P2.2", b)
		}
	}
}

func TestOpenOfASumInAnotherOrder(t *testing.T) {
	shut(t, "P2.2", []byte("123456789\x26\x39\xf4\xcb"))
	shut(t, "P2.2", []byte("\xcb\xf4\x39\x26123456789"))
	shut(t, "P2.2", []byte("123456789"))
	shut(t, "P2.2", []byte("123456789\xcb\xf4\x39"))
	shut(t, "P2.2", []byte("123456789\xcb\xf4\x39\x26\x00"))
	shut(t, "P2.2", []byte("23456789\xcb\xf4\x39\x26"))
}

func TestOpenOfOneOtherByte(t *testing.T) {
	for _, b := range rows() {
		if len(b) > 70 {
			continue
		}
		sealed := sum.Seal(b)
		for i, was := range sealed {
			for x := 1; x < 256; x++ {
				sealed[i] = was ^ byte(x)
				shut(t, "P2.3", sealed)
			}
			sealed[i] = was
		}
	}
}

func TestOpenOfTwoOtherNeighbours(t *testing.T) {
	for _, s := range []string{"", "a", "ab", "abc\x00\xff"} {
		sealed := sum.Seal([]byte(s))
		for i := range len(sealed) - 1 {
			one, two := sealed[i], sealed[i+1]
			for x := 1; x < 65536; x++ {
				sealed[i], sealed[i+1] = one^byte(x>>8), two^byte(x)
				shut(t, "P2.3", sealed)
			}
			sealed[i], sealed[i+1] = one, two
		}
	}
}

func TestOpenOfLongRowsWithOthers(t *testing.T) {
	for _, b := range rows() {
		if len(b) < 100 || len(b) > 2000 {
			continue
		}
		sealed := sum.Seal(b)
		for i := range len(sealed) - 1 {
			one, two := sealed[i], sealed[i+1]
			for _, x := range []int{0x0001, 0x0100, 0x8000, 0x0180, 0xffff, int(one^two) * 257} {
				sealed[i], sealed[i+1] = one^byte(x>>8), two^byte(x)
				if _, e := sum.Open(sealed); x != 0 && e != api.ErrSumBad {
					t.Errorf("P2.3: %d bytes, others at %d: %d", len(b), i, e)
				}
			}
			sealed[i], sealed[i+1] = one, two
		}
	}
}

// roomy is s with something behind it, in the same memory.
func roomy(s string) ([]byte, []byte) {
	whole := []byte(s + "behind it stands something that is not the call's")
	return whole, whole[:len(s)]
}

func TestWhatIsHandedInStays(t *testing.T) {
	calls := map[string]func([]byte){
		"Sum":  func(b []byte) { sum.Sum(b) },
		"More": func(b []byte) { sum.More(5, b) },
		"Seal": func(b []byte) { sum.Seal(b) },
		"Open": func(b []byte) { sum.Open(b) },
	}
	for name, call := range calls {
		for _, s := range []string{"", "abc", "123456789\xcb\xf4\x39\x26", "123456789\xcb\xf4\x39\x27"} {
			whole, b := roomy(s)
			before := string(whole)
			call(b)
			if string(whole) != before {
				t.Errorf("R2: %s of %q wrote over what was handed in: %q", name, s, whole)
			}
		}
	}
}

func TestSealsAnswerIsNew(t *testing.T) {
	whole, b := roomy("123456789")
	one, two := sum.Seal(b), sum.Seal(b)
	clear(whole)
	clear(two[:cap(two)])
	if string(one) != "123456789\xcb\xf4\x39\x26" {
		t.Errorf("R2: Seal's answer shares memory: %q", one)
	}
}

func TestOpensAnswerIsNew(t *testing.T) {
	whole, b := roomy("123456789\xcb\xf4\x39\x26")
	one, _ := sum.Open(b)
	two, _ := sum.Open(b)
	clear(whole)
	clear(two[:cap(two)])
	if string(one) != "123456789" {
		t.Errorf("R2: Open's answer shares memory: %q", one)
	}
}

// A call that failed, or of other bytes, leaves nothing behind.
func TestCallsHangOnTheirArgumentsAlone(t *testing.T) {
	for range 3 {
		sum.Open([]byte("123456789\xcb\xf4\x39\x27"))
		sum.More(-1, []byte("abc"))
		if n := sum.Sum([]byte("123456789")); n != 3421780262 {
			t.Errorf("R2: Sum = %d", n)
		}
		if b, e := sum.Open(sum.Seal([]byte("ab"))); string(b) != "ab" || e != api.OK {
			t.Errorf("R2: %q, %d", b, e)
		}
	}
}
