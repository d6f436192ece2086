package pdisk_test

import (
	"slices"
	"testing"

	"tumulus/api"
)

// choices are all lists of up to n truths.
func choices(n int) [][]bool {
	all := [][]bool{nil}
	for at := 0; len(all[at]) < n; at++ {
		all = append(all, append(slices.Clone(all[at]), false), append(slices.Clone(all[at]), true))
	}
	return all
}

// orders are all orders of three places.
var orders = [][3]int{{0, 1, 2}, {0, 2, 1}, {1, 0, 2}, {1, 2, 0}, {2, 0, 1}, {2, 1, 0}}

// TestCrashChoices: of three dirty sectors among clean ones each choice, by lists that are shorter, as long,
// and longer, in whatever order they were written.
func TestCrashChoices(t *testing.T) {
	places := [3]int{1, 2, 5}
	for _, keep := range choices(5) {
		for _, order := range orders {
			d := fresh(t, 7)
			texts := []string{"A", "B", "C", "D", "E", "F", "G"}
			for at, text := range texts {
				write(t, d, at, text)
			}
			flush(t, d)
			for _, i := range order {
				write(t, d, places[i], string(rune('p'+i)))
			}
			for i, at := range places {
				texts[at] = kept(keep, i, string(rune('p'+i)), texts[at])
			}
			crash(t, d, keep...)
			has(t, "P7.4: three dirty sectors behind a crash", d, texts...)
		}
	}
}

// TestCrashNothingDirty: whatever the list says, a crash changes no sector that is not dirty.
func TestCrashNothingDirty(t *testing.T) {
	for _, keep := range choices(4) {
		d := fresh(t, 2)
		crash(t, d, keep...)
		has(t, "P7.4: a crash of a new disk", d, "", "")
		write(t, d, 0, "a")
		flush(t, d)
		crash(t, d, keep...)
		has(t, "P7.4: a crash behind a flush", d, "a", "")
	}
}

// TestCrashAll: each sector is dirty, or each second one; the list is as long, or longer, or shorter.
func TestCrashAll(t *testing.T) {
	for _, n := range []int{1, 2, 64, 4096} {
		for step := 1; step <= 2; step++ {
			for _, length := range []int{0, 1, n / 2, n - 1, n, n + 1, 5000} {
				p := newPair(t, n)
				p.write(n-1, []byte("safe"))
				p.write(0, []byte("safe too"))
				p.flush()
				for at := n - 1; at >= 0; at -= step {
					p.write(at, []byte(filled(1+at%64, at)))
				}
				keep := make([]bool, length)
				for i := range keep {
					keep[i] = i%3 != 1
				}
				p.crash(keep)
				p.same()
			}
		}
	}
}

// TestCrashWrites: of a sector that was written twice comes what was flushed or what was written last, never
// what was between.
func TestCrashWrites(t *testing.T) {
	for _, keep := range [][]bool{nil, {false}, {true}, {true, false}, {false, true}} {
		d := fresh(t, 2)
		write(t, d, 1, "once")
		crash(t, d, keep...)
		has(t, "P7.4: written once", d, "", kept(keep, 0, "once", ""))

		d = fresh(t, 2)
		write(t, d, 1, "once, and long")
		write(t, d, 1, "twice")
		write(t, d, 1, "again")
		crash(t, d, keep...)
		has(t, "P7.4: written again", d, "", kept(keep, 0, "again", ""))

		d = fresh(t, 2)
		write(t, d, 1, "once, and long")
		write(t, d, 1, "twice, and long")
		flush(t, d)
		write(t, d, 1, "three times")
		write(t, d, 1, "four")
		crash(t, d, keep...)
		has(t, "P7.4: written again behind a flush", d, "", kept(keep, 0, "four", "twice, and long"))
	}
}

// TestCrashSame: a sector in which what it had was written once more is dirty, one that was refused is not.
func TestCrashSame(t *testing.T) {
	d := fresh(t, 4)
	write(t, d, 1, "a")
	flush(t, d)
	write(t, d, 0, "")
	write(t, d, 1, "b")
	write(t, d, 1, "a")
	tells(t, "P7.2: Write of 65 bytes", d.Write(2, []byte(filled(65, 1))), api.ErrArg)
	tells(t, "P7.2: Write(4)", d.Write(4, nil), api.ErrDiskSector)
	write(t, d, 3, "c")
	crash(t, d, false, false, true)
	has(t, "P7.4: the third dirty sector", d, "", "a", "", "c")
}

// TestCrashAgain: what the first crash left is what the second one leaves; what it lost doesn't come again,
// what it kept is safe.
func TestCrashAgain(t *testing.T) {
	for _, first := range choices(3) {
		for _, second := range choices(3) {
			d := fresh(t, 3)
			write(t, d, 0, "a")
			write(t, d, 2, "b")
			flush(t, d)
			write(t, d, 0, "c")
			write(t, d, 2, "d")
			crash(t, d, first...)
			left := []string{kept(first, 0, "c", "a"), "", kept(first, 1, "d", "b")}
			has(t, "P7.4: behind a crash", d, left...)
			crash(t, d, second...)
			has(t, "P7.4: behind a crash behind a crash", d, left...)
			write(t, d, 0, "e")
			write(t, d, 1, "f")
			crash(t, d, second...)
			has(t, "P7.4: written between two crashes", d, kept(second, 0, "e", left[0]), kept(second, 1, "f", ""), left[2])
		}
	}
}

// TestCrashBehindFlush: what a flush behind a crash made safe is what the next crash brings back.
func TestCrashBehindFlush(t *testing.T) {
	d := fresh(t, 2)
	write(t, d, 0, "a")
	crash(t, d, true)
	write(t, d, 0, "b")
	flush(t, d)
	write(t, d, 0, "c")
	crash(t, d)
	has(t, "P7.4: a crash, a flush, a crash", d, "b", "")
}

// TestCrashStopped: a disk that has stopped takes writes again, and no Stop is in force.
func TestCrashStopped(t *testing.T) {
	for n := range 3 {
		d := fresh(t, 2)
		stop(t, d, n)
		runs(t, "Stop", d, n)
		crash(t, d)
		goesOn(t, "behind a crash of a disk that has stopped", d, 10)
		write(t, d, 1, "x")
		flush(t, d)
		crash(t, d)
		has(t, "P7.4: behind a crash", d, "a", "x")
		stop(t, d, 2)
		runs(t, "a Stop behind a crash", d, 2)
	}
}

// TestCrashEndsStop: a Stop that is in force ends by a crash, whatever is left of it.
func TestCrashEndsStop(t *testing.T) {
	for n := 1; n < 5; n++ {
		for calls := range n {
			d := fresh(t, 1)
			stop(t, d, n)
			for range calls {
				flush(t, d)
			}
			crash(t, d)
			goesOn(t, "a Stop ahead of a crash", d, 10)
			tells(t, "P7.3: Stop behind a crash", d.Stop(0), api.OK)
			stopped(t, "Stop(0) behind a crash", d)
		}
	}
}
