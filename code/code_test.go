package code_test

import (
	"bytes"
	"math"
	"slices"
	"strings"
	"testing"

	"tumulus/api"
	"tumulus/code"
)

// numbers are the edges of a number, and some between, with their bytes.
var numbers = []struct {
	n     int
	bytes string
}{
	{0, "\x00\x00\x00\x00"},
	{1, "\x00\x00\x00\x01"},
	{255, "\x00\x00\x00\xff"},
	{256, "\x00\x00\x01\x00"},
	{258, "\x00\x00\x01\x02"},
	{65536, "\x00\x01\x00\x00"},
	{16909060, "\x01\x02\x03\x04"},
	{2130706432, "\x7f\x00\x00\x00"},
	{2147483646, "\x7f\xff\xff\xfe"},
	{2147483647, "\x7f\xff\xff\xff"},
}

// ints are the edges of an int, and some between, with their bytes.
var ints = []struct {
	n     int
	bytes string
}{
	{0, "\x00\x00\x00\x00\x00\x00\x00\x00"},
	{1, "\x00\x00\x00\x00\x00\x00\x00\x01"},
	{-1, "\xff\xff\xff\xff\xff\xff\xff\xff"},
	{-2, "\xff\xff\xff\xff\xff\xff\xff\xfe"},
	{2147483648, "\x00\x00\x00\x00\x80\x00\x00\x00"},
	{72623859790382856, "\x01\x02\x03\x04\x05\x06\x07\x08"},
	{math.MaxInt, "\x7f\xff\xff\xff\xff\xff\xff\xff"},
	{math.MinInt, "\x80\x00\x00\x00\x00\x00\x00\x00"},
	{math.MinInt + 1, "\x80\x00\x00\x00\x00\x00\x00\x01"},
}

// texts are the edges of a text, and some between, with the bytes of their sizes.
func texts() map[string]string {
	return map[string]string{
		"":                          "\x00\x00\x00\x00",
		"a":                         "\x00\x00\x00\x01",
		"ab":                        "\x00\x00\x00\x02",
		"\x00\xff\n\xc3\x28":        "\x00\x00\x00\x05",
		strings.Repeat("x", 255):    "\x00\x00\x00\xff",
		strings.Repeat("y", 256):    "\x00\x00\x01\x00",
		strings.Repeat("ab", 32767): "\x00\x00\xff\xfe",
		strings.Repeat("z", 65535):  "\x00\x00\xff\xff",
		strings.Repeat("q", 65536):  "\x00\x01\x00\x00",
	}
}

func TestPutNumber(t *testing.T) {
	for _, x := range numbers {
		for _, b := range []string{"", "\x09", "ahead of it"} {
			got, e := code.PutNumber([]byte(b), x.n)
			if e != api.OK || string(got) != b+x.bytes {
				t.Errorf("P1.1: PutNumber(%q, %d) = %q, %d", b, x.n, got, e)
			}
		}
	}
	for _, n := range []int{-1, -2, 2147483648, 4294967296, 4294967297, math.MaxInt, math.MinInt} {
		got, e := code.PutNumber([]byte("ahead"), n)
		if e != api.ErrArg || got != nil {
			t.Errorf("P1.1, R1: PutNumber of %d = %q, %d", n, got, e)
		}
	}
}

func TestPutInt(t *testing.T) {
	for _, x := range ints {
		for _, b := range []string{"", "\x09", "ahead of it"} {
			if got := code.PutInt([]byte(b), x.n); string(got) != b+x.bytes {
				t.Errorf("P1.1: PutInt(%q, %d) = %q", b, x.n, got)
			}
		}
	}
}

func TestPutText(t *testing.T) {
	for s, size := range texts() {
		for _, b := range []string{"", "\x09", "ahead of it"} {
			got, e := code.PutText([]byte(b), s)
			if e != api.OK || string(got) != b+size+s {
				t.Errorf("P1.1: PutText behind %q of %d bytes: %d bytes, %d", b, len(s), len(got), e)
			}
		}
	}
	for _, n := range []int{65537, 65538, 131072} {
		got, e := code.PutText([]byte("ahead"), strings.Repeat("x", n))
		if e != api.ErrLimit || got != nil {
			t.Errorf("P1.1, R1: PutText of %d bytes: %d bytes, %d", n, len(got), e)
		}
	}
}

// puts are the three calls that lay, each with something small.
func puts() map[string]func([]byte) []byte {
	return map[string]func([]byte) []byte{
		"PutNumber": func(b []byte) []byte { out, _ := code.PutNumber(b, 16909060); return out },
		"PutInt":    func(b []byte) []byte { return code.PutInt(b, -2) },
		"PutText":   func(b []byte) []byte { out, _ := code.PutText(b, "ab"); return out },
		"no text":   func(b []byte) []byte { out, _ := code.PutText(b, ""); return out },
	}
}

func TestPutLeavesWhatIsHandedIn(t *testing.T) {
	for name, put := range puts() {
		whole := []byte("ahead|behind it stands something that is not the call's")
		before := string(whole)
		got := put(whole[:5])
		if string(whole) != before {
			t.Errorf("P1.1: %s wrote over what was handed in: %q", name, whole)
		}
		laid := string(got)
		clear(whole)
		if string(got) != laid {
			t.Errorf("R2: %s answers the memory that was handed in: %q", name, got)
		}
	}
}

func TestPutAnswersAreNew(t *testing.T) {
	for name, put := range puts() {
		first := put([]byte("ahead"))
		laid := string(first)
		for other, more := range puts() {
			second := more(first)
			third := more(first)
			clear(second[:cap(second)])
			if string(first) != laid || string(third[:len(laid)]) != laid {
				t.Errorf("R2: %s behind %s shares memory with another answer", other, name)
			}
		}
	}
}

func TestNewAndLeft(t *testing.T) {
	for _, n := range []int{0, 1, 3, 4, 8, 65540, 200000} {
		if got := code.New(make([]byte, n)).Left(); got != n {
			t.Errorf("P1.2: Left of %d bytes = %d", n, got)
		}
	}
	if r := code.New(nil); r == nil || r.Left() != 0 {
		t.Errorf("P1.2: a reader of no bytes: %v", r)
	}
	if got := new(code.Reader).Left(); got != 0 {
		t.Errorf("P1.2: Left of a zero reader = %d", got)
	}
}

func TestNewKeepsNothingOfTheCallers(t *testing.T) {
	b := []byte("\x00\x00\x00\x02ab\x00\x00\x00\x07")
	before := string(b)
	r := code.New(b)
	if s, e := r.Text(); s != "ab" || e != api.OK {
		t.Errorf("P1.3: Text = %q, %d", s, e)
	}
	if string(b) != before {
		t.Errorf("R2: the reader wrote into what was handed in: %q", b)
	}
	clear(b)
	b[6] = 200
	if n, e := r.Number(); n != 7 || e != api.OK {
		t.Errorf("R2: the reader kept what was handed in: %d, %d", n, e)
	}
}

func TestReadersKnowNothingOfOneAnother(t *testing.T) {
	b := []byte("\x00\x00\x00\x01\x00\x00\x00\x02")
	one, two := code.New(b), code.New(b)
	one.Number()
	if n, e := two.Number(); n != 1 || e != api.OK || two.Left() != 4 {
		t.Errorf("R3: the second reader: %d, %d, %d left", n, e, two.Left())
	}
	if n, e := one.Number(); n != 2 || e != api.OK || one.Left() != 0 {
		t.Errorf("R3: the first reader: %d, %d, %d left", n, e, one.Left())
	}
}

// behinds is what may stand behind that which is read.
var behinds = []string{"", "\x00", "\xff", "\x00\x00\x00\x01x", "something more"}

func TestNumber(t *testing.T) {
	for _, x := range numbers {
		for _, more := range behinds {
			r := code.New([]byte(x.bytes + more))
			if n, e := r.Number(); n != x.n || e != api.OK || r.Left() != len(more) {
				t.Errorf("P1.3: Number of %q: %d, %d, %d left", x.bytes+more, n, e, r.Left())
			}
		}
	}
}

func TestInt(t *testing.T) {
	for _, x := range ints {
		for _, more := range behinds {
			r := code.New([]byte(x.bytes + more))
			if n, e := r.Int(); n != x.n || e != api.OK || r.Left() != len(more) {
				t.Errorf("P1.3: Int of %q: %d, %d, %d left", x.bytes+more, n, e, r.Left())
			}
		}
	}
}

func TestText(t *testing.T) {
	for s, size := range texts() {
		for _, more := range behinds {
			r := code.New([]byte(size + s + more))
			if got, e := r.Text(); got != s || e != api.OK || r.Left() != len(more) {
				t.Errorf("P1.3: Text of %d bytes: %d bytes, %d, %d left", len(s), len(got), e, r.Left())
			}
		}
	}
}

// refused are bytes from which each call's error comes (OK: it comes from this call none).
func refused() []struct {
	bytes             string
	number, int, text api.Errno
} {
	const end, form = api.ErrCodeEnd, api.ErrCodeForm
	return []struct {
		bytes             string
		number, int, text api.Errno
	}{
		{"", end, end, end},
		{"\x00", end, end, end},
		{"\x00\x00\x01", end, end, end},
		{"\x80", end, end, end},
		{"\xff\xff\xff", end, end, end},
		{"\x80\x00\x00\x00", form, end, form},
		{"\xff\xff\xff\xff", form, end, form},
		{"\x80\x00\x00\x00\x00\x00\x00", form, end, form},
		{"\x80\x00\x00\x00\x00\x00\x00\x00", form, api.OK, form},
		{"\x80\x00\x00\x01abcdefgh", form, api.OK, form},
		{"\x7f\xff\xff\xff", api.OK, end, form},
		{"\x7f\x00\x00\x00\x00\x00\x00\x00", api.OK, api.OK, form},
		{"\x00\x01\x00\x01", api.OK, end, form},
		{"\x00\x01\x00\x01" + strings.Repeat("x", 65536), api.OK, api.OK, form},
		{"\x00\x01\x00\x01" + strings.Repeat("x", 65537), api.OK, api.OK, form},
		{"\x00\x01\x00\x00", api.OK, end, end},
		{"\x00\x01\x00\x00" + strings.Repeat("x", 65535), api.OK, api.OK, end},
		{"\x00\x00\x00\x01", api.OK, end, end},
		{"\x00\x00\x00\x03ab", api.OK, end, end},
		{"\x00\x00\x00\x09abcdefgh", api.OK, api.OK, end},
	}
}

// rereads looks that the reader has just want from its place on, by what each of its calls then tells.
func rereads(t *testing.T, r *code.Reader, want string) {
	t.Helper()
	if r.Left() != len(want) {
		t.Errorf("P1.3: %d bytes are left, of %d", r.Left(), len(want))
		return
	}
	fresh := code.New([]byte(want))
	n, e := r.Number()
	if m, f := fresh.Number(); n != m || e != f {
		t.Errorf("P1.3: the place has gone on: %d, %d, not %d, %d", n, e, m, f)
	}
	for range len(want)/8 + 1 {
		n, e = r.Int()
		if m, f := fresh.Int(); n != m || e != f {
			t.Errorf("P1.3: the place has gone on: %d, %d, not %d, %d", n, e, m, f)
			return
		}
	}
}

func TestErrorsLeaveThePlace(t *testing.T) {
	for _, x := range refused() {
		head := x.bytes[:min(len(x.bytes), 12)]
		r := code.New([]byte("\x00\x00\x00\x02ab" + x.bytes))
		r.Text()
		if n, e := r.Number(); x.number != api.OK && (n != 0 || e != x.number) {
			t.Errorf("P1.3, R1: Number of %q: %d, %d", head, n, e)
		} else if x.number != api.OK {
			rereads(t, r, x.bytes)
		}
		r = code.New([]byte("\x00\x00\x00\x02ab" + x.bytes))
		r.Text()
		if n, e := r.Int(); x.int != api.OK && (n != 0 || e != x.int) {
			t.Errorf("P1.3, R1: Int of %q: %d, %d", head, n, e)
		} else if x.int != api.OK {
			rereads(t, r, x.bytes)
		}
		r = code.New([]byte("\x00\x00\x00\x02ab" + x.bytes))
		r.Text()
		if s, e := r.Text(); s != "" || e != x.text {
			t.Errorf("P1.3, R1: Text of %q: %q, %d", head, s, e)
		} else {
			rereads(t, r, x.bytes)
		}
	}
}

// An error that comes again and again is the same, and what another call may read there it reads.
func TestErrorsChangeNothing(t *testing.T) {
	r := code.New([]byte("\x80\x00\x00\x00\x00\x00\x00\x05\x00\x00\x00\x04abc"))
	for range 3 {
		if _, e := r.Number(); e != api.ErrCodeForm {
			t.Errorf("P1.3: Number: %d", e)
		}
		if _, e := r.Text(); e != api.ErrCodeForm {
			t.Errorf("P1.3: Text: %d", e)
		}
	}
	if n, e := r.Int(); n != math.MinInt+5 || e != api.OK {
		t.Errorf("P1.3: Int: %d, %d", n, e)
	}
	for range 3 {
		if _, e := r.Text(); e != api.ErrCodeEnd {
			t.Errorf("P1.3: Text: %d", e)
		}
		if _, e := r.Int(); e != api.ErrCodeEnd {
			t.Errorf("P1.3: Int: %d", e)
		}
	}
	if n, e := r.Number(); n != 4 || e != api.OK || r.Left() != 3 {
		t.Errorf("P1.3: Number: %d, %d, %d left", n, e, r.Left())
	}
}

func TestNilReader(t *testing.T) {
	var r *code.Reader
	if n, e := r.Number(); n != 0 || e != api.ErrNil {
		t.Errorf("R3: Number: %d, %d", n, e)
	}
	if n, e := r.Int(); n != 0 || e != api.ErrNil {
		t.Errorf("R3: Int: %d, %d", n, e)
	}
	if s, e := r.Text(); s != "" || e != api.ErrNil {
		t.Errorf("R3: Text: %q, %d", s, e)
	}
	if got := r.Left(); got != 0 {
		t.Errorf("P1.2: Left: %d", got)
	}
}

func TestZeroReader(t *testing.T) {
	var r code.Reader
	if _, e := r.Number(); e != api.ErrCodeEnd {
		t.Errorf("P1.3: Number: %d", e)
	}
	if _, e := r.Int(); e != api.ErrCodeEnd {
		t.Errorf("P1.3: Int: %d", e)
	}
	if _, e := r.Text(); e != api.ErrCodeEnd {
		t.Errorf("P1.3: Text: %d", e)
	}
}

func TestReadersCallsAreHandedOn(t *testing.T) {
	r := code.New([]byte("\x00\x00\x00\x05\xff\xff\xff\xff\xff\xff\xff\xfe\x00\x00\x00\x01a"))
	number, int, text, left := r.Number, r.Int, r.Text, r.Left
	if n, e := number(); n != 5 || e != api.OK || left() != 13 {
		t.Errorf("P1.3: %d, %d, %d left", n, e, left())
	}
	if n, e := int(); n != -2 || e != api.OK || left() != 5 {
		t.Errorf("P1.3: %d, %d, %d left", n, e, left())
	}
	if s, e := text(); s != "a" || e != api.OK || left() != 0 {
		t.Errorf("P1.3: %q, %d, %d left", s, e, left())
	}
}

// layAll lays every edge, one behind the other.
func layAll(t *testing.T, all []string) []byte {
	t.Helper()
	var b []byte
	var e api.Errno
	for _, x := range numbers {
		if b, e = code.PutNumber(b, x.n); e != api.OK {
			t.Fatalf("P1.1: %d", e)
		}
	}
	for _, x := range ints {
		b = code.PutInt(b, x.n)
	}
	for _, s := range all {
		if b, e = code.PutText(b, s); e != api.OK {
			t.Fatalf("P1.1: %d", e)
		}
	}
	return b
}

func TestWhatIsPutIsRead(t *testing.T) {
	var all []string
	for s := range texts() {
		all = append(all, s)
	}
	slices.Sort(all)
	b := layAll(t, all)
	for _, more := range behinds {
		r := code.New(append(bytes.Clone(b), more...))
		for _, x := range numbers {
			if n, e := r.Number(); n != x.n || e != api.OK {
				t.Fatalf("P1.4: %d: %d, %d", x.n, n, e)
			}
		}
		for _, x := range ints {
			if n, e := r.Int(); n != x.n || e != api.OK {
				t.Fatalf("P1.4: %d: %d, %d", x.n, n, e)
			}
		}
		for _, s := range all {
			if got, e := r.Text(); got != s || e != api.OK {
				t.Fatalf("P1.4: a text of %d bytes: %d bytes, %d", len(s), len(got), e)
			}
		}
		if r.Left() != len(more) {
			t.Errorf("P1.4: %d left, of %d", r.Left(), len(more))
		}
	}
}

// rows makes bytes of all sorts by a rule, many with small firsts, so that some are numbers and texts.
func rows() [][]byte {
	var out [][]byte
	x := uint32(1)
	for i := range 4000 {
		row := make([]byte, i%40)
		for j := range row {
			x = x*1664525 + 1013904223
			row[j] = byte(x >> 24)
			if j < i%5 {
				row[j] >>= 7
			}
		}
		out = append(out, row)
	}
	return out
}

func TestWhatIsReadAndPutAnewIsTheSame(t *testing.T) {
	numbers, texts := 0, 0
	for _, row := range rows() {
		r := code.New(row)
		if n, e := r.Number(); e == api.OK {
			numbers++
			if b, f := code.PutNumber(nil, n); f != api.OK || !bytes.Equal(b, row[:len(row)-r.Left()]) {
				t.Fatalf("P1.4: the number of % x: % x, %d", row, b, f)
			}
		}
		r = code.New(row)
		if n, e := r.Int(); e == api.OK {
			if b := code.PutInt(nil, n); !bytes.Equal(b, row[:len(row)-r.Left()]) {
				t.Fatalf("P1.4: the int of % x: % x", row, b)
			}
		} else if len(row) >= 8 {
			t.Fatalf("P1.3: any eight bytes are an int: % x: %d", row, e)
		}
		r = code.New(row)
		if s, e := r.Text(); e == api.OK {
			texts++
			if b, f := code.PutText(nil, s); f != api.OK || !bytes.Equal(b, row[:len(row)-r.Left()]) {
				t.Fatalf("P1.4: the text of % x: % x, %d", row, b, f)
			}
		}
	}
	if numbers < 100 || texts < 100 {
		t.Errorf("too few rows are anything: %d numbers, %d texts", numbers, texts)
	}
}
