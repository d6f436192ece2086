package pdisk_test

import (
	"math"
	"testing"

	"tumulus/api"
	"tumulus/pdisk"
)

// noStops are numbers of calls that no Stop takes.
var noStops = []int{-1, -2, -1000000, 1000001, 1000002, math.MaxInt, math.MaxInt - 1, math.MinInt, math.MinInt + 1}

// runs looks that the disk takes n calls, writes and flushes by turns, and has stopped behind the last one,
// never ahead of it.
func runs(t *testing.T, what string, d *pdisk.Disk, n int) {
	t.Helper()
	for i := range n {
		if d.Down() {
			t.Fatalf("P7.3: %s: it has stopped ahead of call %d of %d", what, i, n)
		}
		if i%2 == 0 {
			tells(t, what+": Write", d.Write(0, []byte("a")), api.OK)
		} else {
			tells(t, what+": Flush", d.Flush(), api.OK)
		}
	}
	stopped(t, what, d)
}

// stopped looks that nothing is taken.
func stopped(t *testing.T, what string, d *pdisk.Disk) {
	t.Helper()
	for range 3 {
		if !d.Down() {
			t.Fatalf("P7.3: %s: it has not stopped", what)
		}
		tells(t, what+": Write", d.Write(0, []byte("b")), api.ErrDiskDown)
		tells(t, what+": Flush", d.Flush(), api.ErrDiskDown)
		for _, n := range append([]int{0, 1, 2, 1000000}, noStops...) {
			tells(t, what+": Stop", d.Stop(n), api.ErrDiskDown)
		}
	}
}

// goesOn looks that no Stop is in force, as far as so many calls tell.
func goesOn(t *testing.T, what string, d *pdisk.Disk, n int) {
	t.Helper()
	for range n {
		tells(t, what+": Write", d.Write(0, []byte("a")), api.OK)
		tells(t, what+": Flush", d.Flush(), api.OK)
		if d.Down() {
			t.Fatalf("P7.3: %s: it has stopped", what)
		}
	}
}

func TestNoStop(t *testing.T) {
	goesOn(t, "no Stop", fresh(t, 1), 1000)
}

func TestStop(t *testing.T) {
	for _, n := range []int{0, 1, 2, 3, 4, 17, 100, 999999, 1000000} {
		d := fresh(t, 2)
		stop(t, d, n)
		runs(t, "Stop", d, n)
	}
}

// TestStopWrong: what no Stop takes leaves the one that is in force as it is, or none.
func TestStopWrong(t *testing.T) {
	for _, n := range noStops {
		d := fresh(t, 2)
		tells(t, "P7.3: Stop", d.Stop(n), api.ErrArg)
		goesOn(t, "a Stop that was refused", d, 4)
		stop(t, d, 3)
		write(t, d, 1, "a")
		tells(t, "P7.3: Stop", d.Stop(n), api.ErrArg)
		runs(t, "a Stop, and one that was refused", d, 2)
	}
}

// TestStopAgain: a Stop comes in the place of the one ahead, be it shorter or longer, whatever was left of it.
func TestStopAgain(t *testing.T) {
	for first := 1; first < 5; first++ {
		for calls := range first {
			for second := range 7 {
				d := fresh(t, 1)
				stop(t, d, first)
				for range calls {
					flush(t, d)
				}
				stop(t, d, second)
				runs(t, "a Stop in the place of another one", d, second)
			}
		}
	}
	d := fresh(t, 1)
	for range 10 {
		stop(t, d, 1000000)
		flush(t, d)
		stop(t, d, 2)
		flush(t, d)
	}
	runs(t, "many Stops", d, 1)
}

// TestStopCounts: what answers an error, and what is no Write or Flush, does not count.
func TestStopCounts(t *testing.T) {
	for n := 1; n < 6; n++ {
		d := fresh(t, 2)
		stop(t, d, n)
		for i := range n {
			uncounted(t, d)
			if i%2 == 0 {
				write(t, d, 1, "a")
			} else {
				flush(t, d)
			}
			if d.Down() != (i == n-1) {
				t.Fatalf("P7.3: Stop(%d), %d calls: stopped: %v", n, i+1, d.Down())
			}
		}
		stopped(t, "Stop", d)
	}
}

// uncounted asks what does not count towards a Stop.
func uncounted(t *testing.T, d *pdisk.Disk) {
	t.Helper()
	for range 10 {
		tells(t, "P7.2: Write(2)", d.Write(2, nil), api.ErrDiskSector)
		tells(t, "P7.2: Write(-1)", d.Write(-1, nil), api.ErrDiskSector)
		tells(t, "P7.2: Write of 65 bytes", d.Write(0, make([]byte, 65)), api.ErrArg)
		tells(t, "P7.3: Stop(-1)", d.Stop(-1), api.ErrArg)
		if _, e := d.Read(0); e != api.OK {
			t.Errorf("P7.1: Read(0): %d", e)
		}
		if _, e := d.Read(2); e != api.ErrDiskSector {
			t.Errorf("P7.1: Read(2): %d", e)
		}
		if d.Size() != 2 || d.Down() {
			t.Errorf("P7.3: %d sectors, stopped: %v", d.Size(), d.Down())
		}
	}
}

// TestLastCall: the call behind which a disk stops still does its work.
func TestLastCall(t *testing.T) {
	d := fresh(t, 2)
	stop(t, d, 1)
	write(t, d, 0, "a")
	has(t, "P7.3: a write, the last call", d, "a", "")
	crash(t, d, true)
	has(t, "P7.4: a write, the last call, kept", d, "a", "")

	stop(t, d, 2)
	write(t, d, 0, "b")
	write(t, d, 1, "c")
	has(t, "P7.3: a write, the last one of two calls", d, "b", "c")
	crash(t, d, true)
	has(t, "P7.4: a write, the last one of two calls, lost", d, "b", "")

	write(t, d, 1, "d")
	stop(t, d, 1)
	flush(t, d)
	stopped(t, "a flush, the last call", d)
	crash(t, d)
	has(t, "P7.3: a flush, the last call", d, "b", "d")
}

// TestStoppedFlush: a Flush of a disk that has stopped flushes nothing: what was written ahead is dirty.
func TestStoppedFlush(t *testing.T) {
	for _, keep := range [][]bool{nil, {false, false}, {true}, {false, true}, {true, true}} {
		d := fresh(t, 3)
		write(t, d, 2, "a")
		flush(t, d)
		stop(t, d, 2)
		write(t, d, 0, "b")
		write(t, d, 2, "c")
		stopped(t, "a disk with two dirty sectors", d)
		has(t, "P7.1: a disk that has stopped", d, "b", "", "c")
		crash(t, d, keep...)
		has(t, "P7.4: a crash behind a Flush that told ErrDiskDown", d, kept(keep, 0, "b", ""), "", kept(keep, 1, "c", "a"))
	}
}

// kept is what the i-th dirty sector has behind a crash.
func kept(keep []bool, i int, last, had string) string {
	if i < len(keep) && keep[i] {
		return last
	}
	return had
}
