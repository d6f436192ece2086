package pdisk_test

import (
	"math"
	"testing"
)

// moves are calls on a disk of two sectors, right ones and wrong ones, that change what later ones answer.
func moves() []func(pair) {
	long := make([]byte, 65)
	return []func(pair){
		func(p pair) { p.write(0, []byte("a")) },
		func(p pair) { p.write(0, []byte("bb")) },
		func(p pair) { p.write(1, []byte("c")) },
		func(p pair) { p.write(1, nil) },
		func(p pair) { p.write(1, long) },
		func(p pair) { p.write(2, nil) },
		pair.flush,
		func(p pair) { p.stop(0) },
		func(p pair) { p.stop(1) },
		func(p pair) { p.stop(2) },
		func(p pair) { p.stop(-1) },
		func(p pair) { p.crash(nil) },
		func(p pair) { p.crash([]bool{true}) },
		func(p pair) { p.crash([]bool{false, true}) },
		func(p pair) { p.crash([]bool{true, true, true}) },
	}
}

// TestAllRows: each row of five of those calls, on a disk of two sectors.
func TestAllRows(t *testing.T) {
	const length = 5
	all := moves()
	rows := 1
	for range length {
		rows *= len(all)
	}
	for row := range rows {
		p := newPair(t, 2)
		for range length {
			all[row%len(all)](p)
			row /= len(all)
		}
		p.same()
	}
}

// step asks one call that is drawn of a pair.
func step(d *dice, p pair) {
	p.t.Helper()
	size := p.disk.Size()
	switch d.below(20) {
	case 0, 1, 2:
		p.flush()
	case 3, 4:
		p.stop(d.below(12) - 1)
	case 5, 6, 7:
		p.crash(drawn(d, size))
	case 8:
		p.write(d.below(size), []byte(filled(65+d.below(3), 0)))
	case 9:
		wrong := noPlaces(size)
		at := wrong[d.below(len(wrong))]
		p.write(at, []byte("a"))
		p.read(at)
	default:
		p.write(d.below(size), []byte(filled(d.below(65), d.below(255))))
	}
}

// drawn is a list of any length of up to two more than there are sectors.
func drawn(d *dice, size int) []bool {
	keep := make([]bool, d.below(size+3))
	for i := range keep {
		keep[i] = d.below(2) == 0
	}
	return keep
}

// TestWalk: long rows of calls that are drawn answer as the plain disk does.
func TestWalk(t *testing.T) {
	for _, size := range []int{1, 2, 3, 8, 9, 30} {
		d := dice(size)
		p := newPair(t, size)
		for range 20000 {
			step(&d, p)
			p.same()
		}
	}
}

// TestWalkWide: disks on which many sectors are dirty ahead of a flush or a crash.
func TestWalkWide(t *testing.T) {
	for _, size := range []int{64, 1000, 4095, 4096} {
		d := dice(size)
		p := newPair(t, size)
		for range 40 {
			for range d.below(size) {
				p.write(d.below(size), []byte(filled(d.below(65), d.below(255))))
			}
			step(&d, p)
			p.same()
		}
	}
}

// TestAnything: nothing panics, and wrong numbers of all kinds, in each state of a disk, answer as the plain
// disk does.
func TestAnything(t *testing.T) {
	numbers := []int{0, 1, 2, 3, -1, -2, -3, 63, 64, 65, 4095, 4096, 4097, 999999, 1000000, 1000001, 1 << 31, 1 << 32, -1 << 31, math.MaxInt, math.MaxInt - 1, math.MinInt, math.MinInt + 1}
	texts := [][]byte{nil, {}, {0}, []byte(filled(64, 1)), []byte(filled(65, 1)), make([]byte, 1<<20)}
	for _, size := range []int{1, 3, 64} {
		for _, calls := range numbers {
			p := newPair(t, size)
			p.stop(calls)
			for _, at := range numbers {
				p.read(at)
				for _, text := range texts {
					p.write(at, text)
				}
				p.same()
			}
			p.crash(make([]bool, 1<<16))
			p.same()
		}
	}
}
