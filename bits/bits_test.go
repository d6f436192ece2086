package bits_test

import (
	"bytes"
	"math"
	"slices"
	"testing"

	"tumulus/api"
	"tumulus/bits"
)

// sizes are the least, the greatest, multiples of a byte's bits and of a word's, and one more and one less.
var sizes = []int{0, 1, 2, 7, 8, 9, 10, 15, 16, 17, 31, 32, 33, 55, 56, 57, 63, 64, 65, 66, 71, 72, 73, 127, 128, 129, 191, 192, 193, 255, 256, 257, 4031, 4032, 4033, 4087, 4088, 4089, 4095, 4096}

// noSizes are no map's numbers of bits.
var noSizes = []int{-1, -2, -8, -64, 4097, 4098, 4104, 4160, math.MaxInt, math.MinInt}

// none are places that no map has, and numbers of bits that none has.
var none = []int{-1, -2, -64, 4097, math.MaxInt, math.MaxInt - 1, math.MinInt, math.MinInt + 1}

// plain is a map by one bool a bit, that says by the document's words what a map has to answer.
type plain []bool

// put tells whether the places are the map's, and turns them if they are.
func (p plain) put(at, n int, on bool) bool {
	if at < 0 || at > len(p) || n < 0 || n > len(p)-at {
		return false
	}
	for i := range n {
		p[at+i] = on
	}
	return true
}

func (p plain) count() int {
	count := 0
	for _, on := range p {
		if on {
			count++
		}
	}
	return count
}

func (p plain) run(from, n int, on bool) int {
	if n < 1 {
		return -1
	}
	for at := max(from, 0); at < len(p) && n <= len(p)-at; at++ {
		if !slices.Contains(p[at:at+n], !on) {
			return at
		}
	}
	return -1
}

func (p plain) bytes() []byte {
	var b []byte
	for i, on := range p {
		if i%8 == 0 {
			b = append(b, 0)
		}
		if on {
			b[i/8] += []byte{1, 2, 4, 8, 16, 32, 64, 128}[i%8]
		}
	}
	return b
}

// dice is a row of numbers by a rule.
type dice uint64

func (d *dice) below(n int) int {
	*d = *d*6364136223846793005 + 1442695040888963407
	return int(uint64(*d) >> 33 % uint64(n))
}

// fresh makes a map of n bits, all off.
func fresh(t *testing.T, n int) *bits.Map {
	t.Helper()
	m, e := bits.New(n)
	if e != api.OK || m == nil {
		t.Fatalf("P3.1: New of %d: %v, %d", n, m, e)
	}
	return m
}

// put turns bits that the map has.
func put(t *testing.T, m *bits.Map, at, n int, on bool) {
	t.Helper()
	if e := m.Put(at, n, on); e != api.OK {
		t.Fatalf("P3.2: Put(%d, %d, %v) of %d bits: %d", at, n, on, m.Len(), e)
	}
}

// same looks that the map is the plain one, by every call that tells of all of it.
func same(t *testing.T, m *bits.Map, p plain) {
	t.Helper()
	if m.Len() != len(p) || m.Count() != p.count() {
		t.Fatalf("P3.1: %d bits, %d on, not %d, %d", m.Len(), m.Count(), len(p), p.count())
	}
	if !bytes.Equal(m.Bytes(), p.bytes()) {
		t.Fatalf("P3.4: % x, not % x", m.Bytes(), p.bytes())
	}
	for at, want := range p {
		if on, e := m.Get(at); on != want || e != api.OK {
			t.Fatalf("P3.1: Get(%d) of %d bits: %v, %d", at, len(p), on, e)
		}
	}
}

func TestExamples(t *testing.T) {
	m := fresh(t, 10)
	put(t, m, 2, 3, true)
	if m.Count() != 3 || m.Run(0, 2, true) != 2 || m.Run(0, 3, false) != 5 {
		t.Errorf("%d, %d, %d", m.Count(), m.Run(0, 2, true), m.Run(0, 3, false))
	}
	if b := m.Bytes(); !bytes.Equal(b, []byte{28, 0}) {
		t.Errorf("Bytes: %d", b)
	}
	one, two := m.Put(9, 2, true), m.Put(10, 0, true)
	if on, e := m.Get(10); one != api.ErrBitsPlace || two != api.OK || on || e != api.ErrBitsPlace {
		t.Errorf("%d, %d, %v, %d", one, two, on, e)
	}
	same(t, m, plain{false, false, true, true, true, false, false, false, false, false})
}

func TestNew(t *testing.T) {
	for _, n := range sizes {
		same(t, fresh(t, n), make(plain, n))
	}
	for _, n := range noSizes {
		if m, e := bits.New(n); m != nil || e != api.ErrArg {
			t.Errorf("P3.1, R1: New of %d: %v, %d", n, m, e)
		}
	}
}

func TestGetOfNoPlace(t *testing.T) {
	for _, n := range sizes {
		m := fresh(t, n)
		put(t, m, 0, n, true)
		for _, at := range append([]int{n, n + 1, n + 7, n + 63, n + 64}, none...) {
			if on, e := m.Get(at); on || e != api.ErrBitsPlace {
				t.Errorf("P3.1, R1: Get(%d) of %d bits: %v, %d", at, n, on, e)
			}
		}
	}
}

// Every stretch of maps around a word and around three is turned on, all else off, and the other way round.
func TestPutOfEachStretch(t *testing.T) {
	for _, n := range []int{1, 7, 8, 9, 63, 64, 65, 130} {
		for at := range n + 1 {
			for size := range n - at + 1 {
				for _, on := range []bool{true, false} {
					m, p := fresh(t, n), make(plain, n)
					put(t, m, 0, n, !on)
					put(t, m, at, size, on)
					p.put(0, n, !on)
					p.put(at, size, on)
					if !bytes.Equal(m.Bytes(), p.bytes()) || m.Count() != p.count() {
						t.Fatalf("P3.2, P3.5: Put(%d, %d, %v) of %d bits: % x, %d on", at, size, on, n, m.Bytes(), m.Count())
					}
				}
			}
		}
	}
}

func TestPutOfAllAndBack(t *testing.T) {
	for _, n := range sizes {
		m, p := fresh(t, n), make(plain, n)
		put(t, m, 0, n, true)
		p.put(0, n, true)
		same(t, m, p)
		put(t, m, 0, n, true)
		same(t, m, p)
		put(t, m, 0, n, false)
		same(t, m, make(plain, n))
	}
}

func TestPutOfNone(t *testing.T) {
	for _, n := range sizes {
		for _, on := range []bool{true, false} {
			m, p := fresh(t, n), make(plain, n)
			put(t, m, 0, n, !on)
			p.put(0, n, !on)
			for _, at := range []int{0, n / 2, max(n-1, 0), n} {
				put(t, m, at, 0, on)
			}
			for _, at := range append([]int{n + 1, n + 2, n + 8, n + 64}, none...) {
				if e := m.Put(at, 0, on); e != api.ErrBitsPlace {
					t.Errorf("P3.2: Put(%d, 0) of %d bits: %d", at, n, e)
				}
			}
			same(t, m, p)
		}
	}
}

func TestPutOfFewerThanNone(t *testing.T) {
	for _, size := range sizes {
		for _, on := range []bool{true, false} {
			m, p := fresh(t, size), make(plain, size)
			put(t, m, 0, size, !on)
			p.put(0, size, !on)
			for _, at := range append([]int{0, 1, 5, size - 1, size, size + 1}, none...) {
				for _, n := range []int{-1, -2, -5, -64, -size, math.MinInt, math.MinInt + 1} {
					if e := m.Put(at, n, on); n < 0 && e != api.ErrBitsPlace {
						t.Errorf("P3.2: Put(%d, %d) of %d bits: %d", at, n, size, e)
					}
				}
			}
			same(t, m, p)
		}
	}
}

// Places of which some are the map's and some are not: none is turned.
func TestPutOfPlacesThatAreNone(t *testing.T) {
	for _, size := range sizes {
		for _, on := range []bool{true, false} {
			m, p := fresh(t, size), make(plain, size)
			put(t, m, 0, size, !on)
			p.put(0, size, !on)
			stretches := [][2]int{
				{0, size + 1}, {0, size + 64}, {0, math.MaxInt}, {1, size}, {1, math.MaxInt},
				{-1, 1}, {-1, 2}, {-1, size + 1}, {-1, size + 2}, {-64, size + 64}, {-size - 1, 2*size + 2},
				{size, 1}, {size, 2}, {size, math.MaxInt}, {size + 1, 1}, {size + 64, 1},
				{size - 1, 2}, {size - 1, math.MaxInt}, {size / 2, size - size/2 + 1},
				{math.MaxInt, 1}, {math.MaxInt, 2}, {math.MaxInt, math.MaxInt}, {math.MaxInt - 1, 2},
				{math.MinInt, 1}, {math.MinInt, math.MaxInt}, {math.MinInt + 1, math.MaxInt},
			}
			for _, x := range stretches {
				if e := m.Put(x[0], x[1], on); e != api.ErrBitsPlace {
					t.Errorf("P3.2: Put(%d, %d) of %d bits: %d", x[0], x[1], size, e)
				}
			}
			same(t, m, p)
		}
	}
}

// Every map of up to nine bits is asked for every run.
func TestRunOfEachSmallMap(t *testing.T) {
	for size := range 10 {
		for value := range 1 << size {
			m, p := fresh(t, size), make(plain, size)
			for i := range size {
				p[i] = value>>i&1 == 1
				put(t, m, i, 1, p[i])
			}
			same(t, m, p)
			for from := -2; from <= size+2; from++ {
				for n := -1; n <= size+2; n++ {
					runs(t, m, p, from, n)
				}
			}
		}
	}
}

// runs looks that both runs that are asked for are the plain map's.
func runs(t *testing.T, m *bits.Map, p plain, from, n int) {
	t.Helper()
	for _, on := range []bool{true, false} {
		if at := m.Run(from, n, on); at != p.run(from, n, on) {
			t.Fatalf("P3.3: Run(%d, %d, %v) of % x: %d, not %d", from, n, on, p.bytes(), at, p.run(from, n, on))
		}
	}
}

// One stretch of bits that differ from all else lies at, over and up to the words' ends.
func TestRunOverWordsEnds(t *testing.T) {
	for _, size := range []int{64, 65, 127, 128, 129, 192, 200} {
		for _, n := range []int{1, 2, 3, 63, 64, 65, 66, 127, 128, 129} {
			for _, at := range []int{0, 1, 61, 62, 63, 64, 65, 66, 126, 127, 128, 129, size - n - 1, size - n} {
				if at < 0 || n > size-at {
					continue
				}
				for _, on := range []bool{true, false} {
					runOver(t, size, at, n, on)
				}
			}
		}
	}
}

// runOver looks for the stretch from at on in a map in which all else is the other way.
func runOver(t *testing.T, size, at, n int, on bool) {
	t.Helper()
	m := fresh(t, size)
	put(t, m, 0, size, !on)
	put(t, m, at, n, on)
	for _, x := range []struct{ from, n, want int }{
		{0, n, at}, {-1, n, at}, {math.MinInt, n, at}, {at, n, at}, {0, 1, at}, {0, n + 1, -1},
		{at + 1, n, -1}, {at + n - 1, 1, at + n - 1}, {at + n, 1, -1}, {at + 1, max(n-1, 1), at + 1},
	} {
		want := x.want
		if x.from == at+1 && n == 1 {
			want = -1
		}
		if got := m.Run(x.from, x.n, on); got != want {
			t.Errorf("P3.3: Run(%d, %d, %v) of %d bits, %d from %d on: %d, not %d", x.from, x.n, on, size, n, at, got, want)
		}
	}
}

// Shorter runs ahead of one that is long enough are passed over, one that ends at the last place is found.
func TestRunPassesShorterOnes(t *testing.T) {
	for _, on := range []bool{true, false} {
		m := fresh(t, 4096)
		put(t, m, 0, 4096, !on)
		for at := 0; at < 3900; at += 70 {
			put(t, m, at, 69, on)
		}
		if at := m.Run(0, 70, on); at != -1 {
			t.Errorf("P3.3: there is no run of 70: %d", at)
		}
		put(t, m, 4026, 70, on)
		for _, x := range [][3]int{{0, 70, 4026}, {1, 69, 70}, {71, 68, 71}, {71, 69, 140}, {4026, 70, 4026}, {4027, 69, 4027}, {4027, 70, -1}, {4095, 1, 4095}, {4095, 2, -1}} {
			if at := m.Run(x[0], x[1], on); at != x[2] {
				t.Errorf("P3.3: Run(%d, %d, %v): %d, not %d", x[0], x[1], on, at, x[2])
			}
		}
	}
}

func TestRunOfWholeMaps(t *testing.T) {
	for _, size := range sizes {
		m := fresh(t, size)
		for _, on := range []bool{false, true} {
			put(t, m, 0, size, on)
			want := 0
			if size == 0 {
				want = -1
			}
			for _, from := range []int{0, -1, math.MinInt} {
				if at := m.Run(from, size, on); at != want {
					t.Errorf("P3.3: Run(%d, %d, %v) of as many bits: %d", from, size, on, at)
				}
			}
			if m.Run(0, size+1, on) != -1 || m.Run(0, math.MaxInt, on) != -1 || m.Run(1, size, on) != -1 {
				t.Errorf("P3.3: runs beyond %d bits are found", size)
			}
			if m.Run(0, 1, !on) != -1 {
				t.Errorf("P3.3: of %d bits, all %v, one is not", size, on)
			}
		}
	}
}

// Bits behind the last place are none, on or off, and none is asked for from there on.
func TestRunFromBeyondAndOfNone(t *testing.T) {
	for _, size := range sizes {
		m := fresh(t, size)
		for _, on := range []bool{false, true} {
			put(t, m, 0, size, on)
			for _, from := range []int{size, size + 1, size + 7, size + 64, 4096, 4097, math.MaxInt} {
				if at := m.Run(from, 1, on); at != -1 {
					t.Errorf("P3.3: Run(%d, 1, %v) of %d bits: %d", from, on, size, at)
				}
			}
			for _, n := range []int{0, -1, -64, math.MinInt} {
				for _, from := range []int{-1, 0, size / 2, size, size + 1, math.MaxInt, math.MinInt} {
					if m.Run(from, n, on) != -1 || m.Run(from, n, !on) != -1 {
						t.Errorf("P3.3: Run(%d, %d) of %d bits finds one", from, n, size)
					}
				}
			}
		}
	}
}

// laid are bytes that are written out: size, and stretches that are on.
var laid = []struct {
	size int
	on   [][2]int
	want string
}{
	{0, nil, ""},
	{1, nil, "\x00"},
	{1, [][2]int{{0, 1}}, "\x01"},
	{8, [][2]int{{7, 1}}, "\x80"},
	{8, [][2]int{{0, 8}}, "\xff"},
	{9, [][2]int{{0, 9}}, "\xff\x01"},
	{9, [][2]int{{8, 1}}, "\x00\x01"},
	{10, [][2]int{{1, 1}, {4, 1}, {9, 1}}, "\x12\x02"},
	{16, [][2]int{{7, 2}}, "\x80\x01"},
	{17, [][2]int{{15, 2}}, "\x00\x80\x01"},
	{24, [][2]int{{12, 4}}, "\x00\xf0\x00"},
	{64, [][2]int{{63, 1}}, "\x00\x00\x00\x00\x00\x00\x00\x80"},
	{65, [][2]int{{64, 1}}, "\x00\x00\x00\x00\x00\x00\x00\x00\x01"},
	{66, [][2]int{{63, 2}, {9, 1}}, "\x00\x02\x00\x00\x00\x00\x00\x80\x01"},
}

func TestBytesAreWrittenOut(t *testing.T) {
	for _, x := range laid {
		m := fresh(t, x.size)
		for _, stretch := range x.on {
			put(t, m, stretch[0], stretch[1], true)
		}
		if b := m.Bytes(); string(b) != x.want {
			t.Errorf("P3.4: %d bits, on %v: %q, not %q", x.size, x.on, b, x.want)
		}
		read, e := bits.Read(x.size, []byte(x.want))
		if e != api.OK || string(read.Bytes()) != x.want {
			t.Fatalf("P3.4: Read(%d, %q): %d", x.size, x.want, e)
		}
		for _, stretch := range x.on {
			if read.Run(stretch[0], stretch[1], true) != stretch[0] {
				t.Errorf("P3.4: Read(%d, %q): no %v", x.size, x.want, stretch)
			}
		}
	}
}

func TestBytesAndReadBackAndForth(t *testing.T) {
	d := dice(5)
	for _, size := range sizes {
		for range 8 {
			p := make(plain, size)
			for i := range p {
				p[i] = d.below(2) == 1
			}
			m, e := bits.Read(size, p.bytes())
			if e != api.OK || m == nil {
				t.Fatalf("P3.4: Read of %d bits: %d", size, e)
			}
			same(t, m, p)
			again, e := bits.Read(size, m.Bytes())
			if e != api.OK {
				t.Fatalf("P3.4: Read of %d bits: %d", size, e)
			}
			same(t, again, p)
		}
	}
}

// What is read goes on as what was put: it can be turned up to its last place, and no further.
func TestReadGoesOn(t *testing.T) {
	for _, size := range sizes {
		m, e := bits.Read(size, make(plain, size).bytes())
		if e != api.OK {
			t.Fatalf("P3.4: Read of %d bits: %d", size, e)
		}
		p := make(plain, size)
		p.put(0, size, true)
		put(t, m, 0, size, true)
		if e := m.Put(size, 1, true); e != api.ErrBitsPlace {
			t.Errorf("P3.2: Put behind %d read bits: %d", size, e)
		}
		same(t, m, p)
	}
}

// refused looks that Read answers its error, and nothing beside it.
func refused(t *testing.T, n int, b []byte) {
	t.Helper()
	if m, e := bits.Read(n, b); m != nil || e != api.ErrArg {
		t.Errorf("P3.4, R1: Read(%d, %d bytes % x..): %v, %d", n, len(b), b[:min(len(b), 10)], m, e)
	}
}

func TestReadOfNoNumber(t *testing.T) {
	for _, n := range noSizes {
		for _, size := range []int{0, 1, 8, 511, 512, 513, 514, 520} {
			refused(t, n, make([]byte, size))
		}
	}
	refused(t, -1, nil)
	refused(t, 4097, nil)
}

func TestReadOfTooFewOrTooMany(t *testing.T) {
	for _, n := range sizes {
		right := (n + 7) / 8
		for _, size := range []int{0, 1, right - 8, right - 2, right - 1, right + 1, right + 2, right + 8, 512, 520, 1000} {
			if size >= 0 && size != right {
				refused(t, n, make([]byte, size))
			}
		}
		if n > 0 {
			refused(t, n, nil)
		}
	}
	if m, e := bits.Read(0, nil); e != api.OK || m.Len() != 0 {
		t.Errorf("P3.4: Read(0, none): %v, %d", m, e)
	}
}

// A bit behind the last place is on: alone, and with all that the map may have.
func TestReadOfBitsBehindTheLast(t *testing.T) {
	for _, n := range sizes {
		for behind := n; behind%8 != 0; behind++ {
			b := make([]byte, (n+7)/8)
			b[behind/8] = 1 << (behind % 8)
			refused(t, n, b)
			p := make(plain, n)
			p.put(0, n, true)
			all := p.bytes()
			all[behind/8] |= 1 << (behind % 8)
			refused(t, n, all)
		}
	}
}

// Of all bytes that may stand for up to seventeen bits, just those are maps that lay nothing behind the last place.
func TestReadHasOneForm(t *testing.T) {
	for n := range 18 {
		b := make([]byte, (n+7)/8)
		for value := range 1 << (8 * min(len(b), 2)) {
			for i := range min(len(b), 2) {
				b[len(b)-1-i] = byte(value >> (8 * i))
			}
			m, e := bits.Read(n, b)
			if n%8 != 0 && int(b[len(b)-1]) >= 1<<(n%8) {
				if m != nil || e != api.ErrArg {
					t.Fatalf("P3.4: Read(%d, % x): %v, %d", n, b, m, e)
				}
			} else if e != api.OK || !bytes.Equal(m.Bytes(), b) {
				t.Fatalf("P3.4, T6: Read(%d, % x): %d", n, b, e)
			}
		}
	}
}

// What is put by many calls, some of them wrong, is what a plain map has, and so is each run that is found in it.
func TestManyCalls(t *testing.T) {
	d := dice(1)
	for _, size := range sizes {
		m, p := fresh(t, size), make(plain, size)
		for range 150 {
			at, n, on := d.below(size+4)-2, d.below(d.below(size+1)+2)-1, d.below(2) == 1
			want := api.OK
			if !p.put(at, n, on) {
				want = api.ErrBitsPlace
			}
			if e := m.Put(at, n, on); e != want {
				t.Fatalf("P3.2: Put(%d, %d, %v) of %d bits: %d, not %d", at, n, on, size, e, want)
			}
			if m.Count() != p.count() || !bytes.Equal(m.Bytes(), p.bytes()) {
				t.Fatalf("P3.5: behind Put(%d, %d, %v) of %d bits: % x, not % x", at, n, on, size, m.Bytes(), p.bytes())
			}
			runs(t, m, p, d.below(size+4)-2, d.below(8)-1)
			runs(t, m, p, d.below(size+4)-2, d.below(size+2))
		}
		same(t, m, p)
	}
}

func TestAsksChangeNothing(t *testing.T) {
	m, p := fresh(t, 200), make(plain, 200)
	put(t, m, 60, 70, true)
	p.put(60, 70, true)
	for range 3 {
		m.Run(0, 5, true)
		m.Run(61, 500, false)
		m.Get(64)
		m.Get(200)
		m.Count()
		m.Len()
		bits.Read(200, m.Bytes())
		same(t, m, p)
	}
}

func TestReadKeepsNothingOfTheCallers(t *testing.T) {
	whole := []byte("\x0f\xf0\x0f\xf0\x0f\xf0\x0f\xf0\x0f|behind it stands something")
	before := string(whole)
	m, e := bits.Read(72, whole[:9])
	if e != api.OK {
		t.Fatalf("P3.4: %d", e)
	}
	put(t, m, 0, 72, true)
	put(t, m, 4, 8, false)
	if string(whole) != before {
		t.Errorf("R2: the map wrote into what was handed in: %q", whole)
	}
	laid := string(m.Bytes())
	clear(whole)
	if string(m.Bytes()) != laid {
		t.Errorf("R2: the map kept what was handed in: % x", m.Bytes())
	}
}

func TestBytesAreNew(t *testing.T) {
	m := fresh(t, 100)
	put(t, m, 50, 30, true)
	one, two := m.Bytes(), m.Bytes()
	before := string(one)
	clear(two[:cap(two)])
	put(t, m, 0, 100, true)
	if string(one) != before {
		t.Errorf("R2: Bytes shares memory: % x", one)
	}
	clear(one[:cap(one)])
	if m.Count() != 100 {
		t.Errorf("R2: Bytes hands out the map's own memory: %d", m.Count())
	}
}

func TestMapsKnowNothingOfOneAnother(t *testing.T) {
	one, two := fresh(t, 70), fresh(t, 70)
	put(t, one, 0, 70, true)
	if one.Count() != 70 || two.Count() != 0 {
		t.Errorf("R3: %d, %d", one.Count(), two.Count())
	}
	b := one.Bytes()
	three, _ := bits.Read(70, b)
	four, _ := bits.Read(70, b)
	put(t, three, 3, 66, false)
	if one.Count() != 70 || three.Count() != 4 || four.Count() != 70 {
		t.Errorf("R3: %d, %d, %d", one.Count(), three.Count(), four.Count())
	}
}

func TestNoMap(t *testing.T) {
	var m *bits.Map
	if m.Len() != 0 || m.Count() != 0 || len(m.Bytes()) != 0 {
		t.Errorf("P3.4, R3: %d, %d, % x", m.Len(), m.Count(), m.Bytes())
	}
	for _, x := range append([]int{0, 1, 64}, none...) {
		if on, e := m.Get(x); on || e != api.ErrNil {
			t.Errorf("R3: Get(%d): %v, %d", x, on, e)
		}
		for _, n := range append([]int{0, 1, 64}, none...) {
			for _, on := range []bool{true, false} {
				if e := m.Put(x, n, on); e != api.ErrNil {
					t.Errorf("R3: Put(%d, %d, %v): %d", x, n, on, e)
				}
				if at := m.Run(x, n, on); at != -1 {
					t.Errorf("P3.4: Run(%d, %d, %v): %d", x, n, on, at)
				}
			}
		}
	}
}

// A map that nobody made is one of no bits.
func TestZeroMap(t *testing.T) {
	var m bits.Map
	same(t, &m, plain{})
	put(t, &m, 0, 0, true)
	for _, x := range []int{-1, 0, 1, 64, math.MaxInt, math.MinInt} {
		if on, e := m.Get(x); on || e != api.ErrBitsPlace {
			t.Errorf("P3.1: Get(%d): %v, %d", x, on, e)
		}
		if e := m.Put(x, 1, true); e != api.ErrBitsPlace {
			t.Errorf("P3.2: Put(%d, 1): %d", x, e)
		}
		if m.Run(x, 1, true) != -1 || m.Run(x, 1, false) != -1 {
			t.Errorf("P3.3: Run(%d, 1) finds one", x)
		}
	}
}
