package image_test

import (
	"bytes"
	"math"
	"slices"
	"testing"

	"tumulus/api"
	"tumulus/image"
)

// anyInts are the edges of an int, and some between.
var anyInts = []int{0, 1, -1, 2, -2, 127, 128, 255, 256, -256, 65536, 2147483647, 2147483648, -2147483648, 72623859790382856, math.MaxInt, math.MinInt, math.MinInt + 1}

// kinds are the eight, and some that are none.
var kinds = []api.OpKind{1, 2, 3, 4, 5, 6, 7, 8, 0, 9, -1, -8, 255, 256, 257, math.MaxInt, math.MinInt}

// opOf is the operation of these seven.
func opOf(f [7]int) api.Op {
	return api.Op{Kind: api.OpKind(f[0]), H: f[1], I: f[2], N: f[3], K: f[4], V: f[5], T: f[6]}
}

// lays looks that an operation is laid as these bytes, and read back from them.
func lays(t *testing.T, o api.Op, want []byte) {
	t.Helper()
	got := image.PutOp(o)
	if !bytes.Equal(got, want) {
		t.Errorf("P6.1: PutOp(%+v): % x, not % x", o, got, want)
	}
	if x, e := image.GetOp(want); x != o || e != api.OK {
		t.Errorf("P6.1: GetOp(% x): %+v, %d, not %+v", want, x, e, o)
	}
}

func TestOpExamples(t *testing.T) {
	lays(t, api.Op{}, make([]byte, 56))
	lays(t, api.Op{Kind: 1, H: 2, I: 3, N: 4, K: 5, V: -1, T: 258}, []byte{
		0, 0, 0, 0, 0, 0, 0, 1,
		0, 0, 0, 0, 0, 0, 0, 2,
		0, 0, 0, 0, 0, 0, 0, 3,
		0, 0, 0, 0, 0, 0, 0, 4,
		0, 0, 0, 0, 0, 0, 0, 5,
		255, 255, 255, 255, 255, 255, 255, 255,
		0, 0, 0, 0, 0, 0, 1, 2,
	})
}

func TestOpFields(t *testing.T) {
	for _, kind := range kinds {
		f := [7]int{int(kind), 11, -12, 13, -14, 15, -16}
		lays(t, opOf(f), ints(f[:]...))
		lays(t, api.Op{Kind: kind}, ints(int(kind), 0, 0, 0, 0, 0, 0))
	}
	for i := range 7 {
		for _, n := range anyInts {
			var alone [7]int
			alone[i] = n
			lays(t, opOf(alone), ints(alone[:]...))
			among := [7]int{3, -4, 5, -6, 7, -8, 9}
			among[i] = n
			lays(t, opOf(among), ints(among[:]...))
		}
	}
	for _, n := range anyInts {
		lays(t, opOf([7]int{n, n, n, n, n, n, n}), ints(n, n, n, n, n, n, n))
	}
}

// TestOpSizes: whatever the bytes, there must be 56 of them.
func TestOpSizes(t *testing.T) {
	for _, fill := range []byte{0, 1, 127, 128, 255} {
		for n := range 130 {
			b := bytes.Repeat([]byte{fill}, n)
			x, e := image.GetOp(b)
			if n == 56 {
				if e != api.OK || !bytes.Equal(image.PutOp(x), b) {
					t.Errorf("P6.4: GetOp(% x): %+v, %d", b, x, e)
				}
			} else if e != api.ErrImageForm || x != (api.Op{}) {
				t.Errorf("P6.1, R1: GetOp of %d bytes %d: %+v, %d", n, fill, x, e)
			}
		}
	}
	for _, b := range [][]byte{nil, make([]byte, 112), make([]byte, 1<<20)} {
		if x, e := image.GetOp(b); e != api.ErrImageForm || x != (api.Op{}) {
			t.Errorf("P6.1, R1: GetOp of %d bytes: %+v, %d", len(b), x, e)
		}
	}
}

// TestOpBytes: what is read, and laid anew, is the same bytes, whatever they are.
func TestOpBytes(t *testing.T) {
	d := dice(1)
	for range 2000 {
		b := make([]byte, 56)
		for i := range b {
			b[i] = byte(d.below(256))
		}
		before := slices.Clone(b)
		o, e := image.GetOp(b)
		if e != api.OK || !bytes.Equal(image.PutOp(o), before) || !bytes.Equal(b, before) {
			t.Fatalf("P6.4: GetOp(% x): %+v, %d", before, o, e)
		}
	}
}

// TestOpMemory: nothing is written over, and each answer is new.
func TestOpMemory(t *testing.T) {
	o := api.Op{Kind: 1, H: 2, I: 3, N: 4, K: 5, V: 6, T: 7}
	first, second := image.PutOp(o), image.PutOp(o)
	clear(first[:cap(first)])
	lays(t, o, second)
	room := bytes.Repeat([]byte{9}, 100)
	copy(room, second)
	if x, e := image.GetOp(room[:56]); x != o || e != api.OK {
		t.Errorf("P6.1: GetOp ahead of more: %+v, %d", x, e)
	}
	if !bytes.Equal(room[:56], second) || !bytes.Equal(room[56:], bytes.Repeat([]byte{9}, 44)) {
		t.Errorf("R2: GetOp wrote into what was handed in: % x", room)
	}
}
