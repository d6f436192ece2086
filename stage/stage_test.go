package stage_test

import (
	"math"
	"slices"
	"strings"
	"testing"

	"tumulus/api"
	"tumulus/chunk"
	"tumulus/pdisk"
	"tumulus/stage"
)

// sizes are those around a chunk's end and a half's, and the greatest ones.
var sizes = []int{0, 1, 39, 40, 41, 79, 80, 81, 119, 120, 121, 160, 161, 4959, 4960, 4961, 4999, 5000}

// ints are what may come in where a place is asked for.
var ints = []int{0, 1, 2, 62, 63, 64, 125, 126, -1, -2, 319, 320, math.MaxInt, math.MaxInt - 1, math.MaxInt / 2, math.MinInt, math.MinInt + 1}

// opens looks at what a part tells when it is opened.
func opens(t *testing.T, what string, d *pdisk.Disk, from int, want plain) *stage.Stage {
	t.Helper()
	s, e := stage.Open(d, from)
	if e != api.OK || !alike(see(s), want.seen()) {
		t.Fatalf("%s: Open(%d): %v, %d, not %v", what, from, see(s), e, want.seen())
	}
	return s
}

// refused looks that Open tells one of these errors, and nothing else.
func refused(t *testing.T, what string, d *pdisk.Disk, from int, want ...api.Errno) {
	t.Helper()
	if s, e := stage.Open(d, from); !slices.Contains(want, e) || s != nil {
		t.Errorf("%s: Open(%d): %v, %d, not %d alone", what, from, see(s), e, want)
	}
}

func TestExamples(t *testing.T) {
	d := fresh(t, least)
	s := opens(t, "P11.1: a new disk", d, 0, plain{})
	m, _ := chunk.Of("ab")
	tells(t, "P11.2: Begin", s.Begin(m), api.OK)
	tells(t, "P11.2: Put", s.Put(0, "ab"), api.OK)
	d.Crash(nil)
	staged := plain{m: m, comes: true, pieces: map[int]string{}}
	s = opens(t, "P11.4: the first example", d, 0, staged)
	tells(t, "P11.2: Put", s.Put(0, "ab"), api.OK)
	tells(t, "P11.2: Force", s.Force(), api.OK)
	d.Crash(nil)
	staged.pieces[0] = "ab"
	s = opens(t, "P11.4: the second example", d, 0, staged)
	tells(t, "P11.3: Install", s.Install(), api.OK)
	if x, is := s.Current(); x != "ab" || !is {
		t.Errorf("P11.3: Current: %q, %v", x, is)
	}
	tells(t, "P11.3: the third example: Install", s.Install(), api.ErrStageForm)
	tells(t, "P11.2: the third example: Put", s.Put(0, "ab"), api.ErrStageForm)
	refused(t, "P11.1: the third example", d, 1, api.ErrArg)
	opens(t, "P11.1: behind what was refused", d, 0, plain{current: "ab", is: true})
}

// TestOpenNoDisk: ErrNil, whatever the place is.
func TestOpenNoDisk(t *testing.T) {
	for _, from := range ints {
		refused(t, "P11.1, R1: no disk", nil, from, api.ErrNil)
	}
}

// TestOpenParts: parts that are not all in the disk, whatever lies there, also if it has stopped; and the first
// one and the last one that are.
func TestOpenParts(t *testing.T) {
	for _, size := range []int{1, 63, 64, 318, 319, 320, 321, 322, 640, 1000, 4095, 4096} {
		last := size - least
		d := fresh(t, size)
		wrong := []int{-1, last + 1, last + 2, size - 1, size, size + 1, -least, math.MaxInt, math.MaxInt - 319, math.MaxInt - 320, math.MinInt, math.MinInt + 319, math.MinInt + 320}
		for _, from := range wrong {
			if from < 0 || from > last {
				refused(t, "P11.1: a part that is not all in the disk", d, from, api.ErrArg)
			}
		}
		if slices.ContainsFunc(sectors(t, d), func(s string) bool { return strings.Trim(s, "\x00") != "" }) {
			t.Error("P11.1: what was refused was written")
		}
		for _, from := range []int{0, last} {
			if last >= 0 {
				p := unopened(t, fresh(t, size), from)
				p.opened()
				p.renew(p.text(5000))
				p.begin(p.text(4999))
				p.putAll()
				p.force()
				p.again(nil)
				refused(t, "P11.1: one place too far", p.disk, last+1, api.ErrArg)
				refused(t, "P11.1: one place ahead of the first", p.disk, -1, api.ErrArg)
			}
		}
		d.Stop(0)
		refused(t, "P11.1, R1: a disk that has stopped", d, last+1, api.ErrArg)
		d.Crash(nil)
		lay(t, d, 0, slices.Repeat([]string{"#"}, size)...)
		refused(t, "P11.1, R1: what is no stage's, one place too far", d, max(0, last+1), api.ErrArg)
	}
	refused(t, "P11.1: a disk that New did not make", new(pdisk.Disk), 0, api.ErrArg)
}

// TestOpenStopped: a disk that has stopped, with a part that is new, and with one that a stage has; the latter is
// there behind a crash.
func TestOpenStopped(t *testing.T) {
	d := fresh(t, 400)
	d.Stop(0)
	refused(t, "P11.1: a stopped disk", d, 40, api.ErrDiskDown)
	d.Crash(nil)
	p := unopened(t, d, 40)
	p.opened()
	p.renew(p.text(100))
	p.begin(p.text(100))
	p.putOne(1)
	p.disk.Stop(0)
	refused(t, "P11.1: a stopped disk with a stage", d, 40, api.ErrDiskDown)
	p.again(all())
}

// TestOpenAnew: without a crash a stage is opened as it was, however often, and what Open tells is safe.
func TestOpenAnew(t *testing.T) {
	steps := []step{
		func(*pair) {},
		func(p *pair) { p.begin("") },
		func(p *pair) { p.install() },
		func(p *pair) { p.begin(p.text(300)) },
		func(p *pair) { p.putOne(3) },
		func(p *pair) { p.putOne(1) },
		func(p *pair) { p.putAll() },
		func(p *pair) { p.install() },
		func(p *pair) { p.begin(p.text(170)) },
		func(p *pair) { p.putOne(2) },
	}
	for n := range steps {
		for _, often := range []int{1, 2, 5} {
			p := newPair(t)
			p.steps(steps[:n+1])
			for range often {
				p.opened()
			}
			p.again(nil)
			p.again(nil)
			goesOn(p)
		}
	}
}

// TestBesides: what lies beside a part is not told, and not written over: another one beside it changes nothing.
func TestBesides(t *testing.T) {
	var told [][]string
	for i, beside := range []string{"", "x", strings.Repeat("\xff", 64), strings.Repeat("\x01", 64)} {
		d := fresh(t, least+7)
		for at := range d.Size() {
			if at < 3 || at >= least+3 {
				lay(t, d, at, beside)
			}
		}
		p := unopened(t, d, 3)
		before := sectors(t, d)
		p.opened()
		for range 3 {
			p.renew(p.text(5000))
			p.begin(p.text(5000))
			p.putAll()
			p.force()
			p.again(nil)
		}
		after := sectors(t, d)
		if !slices.Equal(before[:3], after[:3]) || !slices.Equal(before[least+3:], after[least+3:]) {
			t.Error("P11.1: what lies beside the part was written")
		}
		told = append(told, after[3:least+3])
		if !slices.Equal(told[0], told[i]) {
			t.Error("R2: what lies beside the part is told")
		}
	}
}

// TestBegin: right manifests of each size, when nothing is staged and when something is, without pieces, with
// some and with all.
func TestBegin(t *testing.T) {
	for _, size := range sizes {
		for _, before := range []step{
			func(*pair) {},
			func(p *pair) { p.begin("") },
			func(p *pair) { p.begin(p.text(400)) },
			func(p *pair) { p.begin(p.text(400)); p.putOne(0); p.putOne(3) },
			func(p *pair) { p.begin(p.text(5000)); p.putAll() },
			func(p *pair) { p.begin(p.text(size)); p.putAll(); p.force() },
		} {
			for _, has := range []int{-1, 0, 81} {
				p := newPair(t)
				if has >= 0 {
					p.renew(p.text(has))
				}
				before(p)
				tells(t, "P11.2: Begin", p.begin(p.text(size)), api.OK)
				p.again(nil)
				p.putAll()
				tells(t, "P11.3: Install", p.install(), api.OK)
				p.again(nil)
			}
		}
	}
}

// TestBeginSame: the manifest that is staged is staged once more, without the pieces that came for it.
func TestBeginSame(t *testing.T) {
	for _, size := range []int{1, 80, 200, 5000} {
		p := newPair(t)
		data := p.text(size)
		for range 3 {
			p.begin(data)
			p.putAll()
			p.force()
			tells(t, "P11.2: Begin of the same manifest", p.begin(data), api.OK)
			if list := p.stage.Have(); len(list) > 0 {
				t.Errorf("P11.2: the pieces in %v stay", list)
			}
			p.opened()
			p.putOne(0)
			p.begin(data)
			p.again(all())
			p.putAll()
			tells(t, "P11.3: Install", p.install(), api.OK)
			p.again(nil)
		}
	}
}

// TestBeginExtremes: right manifests that may be no text's, with the least sums and the greatest ones.
func TestBeginExtremes(t *testing.T) {
	for _, sum := range []int{0, 1, 255, 1 << 31, 1<<31 - 1, 4294967295, 0x01020304} {
		p := newPair(t)
		p.beginOf(chunk.Manifest{Size: 5000, Sums: slices.Repeat([]int{sum}, 63)}, "")
		p.again(nil)
		p.install()
		p.beginOf(chunk.Manifest{Size: 81, Sums: []int{sum, 1}}, "")
		p.again(nil)
	}
	p := newPair(t)
	p.renew("\xff\xff\xff\xff" + strings.Repeat("\x00", 300))
	p.renew("\x9d\x0a\xd9\x6d")
	p.renew(strings.Repeat("\x00", 5000))
	p.again(nil)
}

// wrong are manifests that are not right, or too great.
func wrong() []chunk.Manifest {
	list := []chunk.Manifest{{Size: -1}, {Size: 1}, {Size: 0, Sums: []int{0}}, {Size: math.MaxInt}, {Size: math.MinInt}, {Size: -80, Sums: []int{1}}}
	for _, size := range []int{5001, 5039, 5040, 5041, 5080, 65535, 65536, 65537} {
		list = append(list, plainOf(strings.Repeat("x", size)))
	}
	for _, size := range []int{1, 80, 81, 160, 5000} {
		m := plainOf(strings.Repeat("y", size))
		n := len(m.Sums)
		list = append(list, chunk.Manifest{Size: size, Sums: m.Sums[:n-1]}, chunk.Manifest{Size: size, Sums: append(m.Sums, 1)}, chunk.Manifest{Size: size + 80, Sums: m.Sums}, chunk.Manifest{Size: -size, Sums: m.Sums})
		for _, sum := range []int{-1, 4294967296, math.MaxInt, math.MinInt} {
			for _, i := range []int{0, n - 1} {
				other := copied(m)
				other.Sums[i] = sum
				list = append(list, other)
			}
		}
	}
	return list
}

// TestBeginWrong: what is no right manifest, or of too great a Size, is refused, whatever is staged, and on a disk
// that has stopped, too.
func TestBeginWrong(t *testing.T) {
	p := newPair(t)
	states := []step{
		func(*pair) {},
		func(p *pair) { p.begin(p.text(200)) },
		func(p *pair) { p.putOne(1) },
		func(p *pair) { p.putAll() },
		func(p *pair) { p.install() },
		func(p *pair) { p.disk.Stop(0) },
	}
	for _, s := range states {
		s(p)
		before := sectors(t, p.disk)
		for _, m := range wrong() {
			tells(t, "P11.2: Begin of what is not right", p.beginOf(m, ""), api.ErrStageForm)
		}
		if !slices.Equal(sectors(t, p.disk), before) {
			t.Error("P11.2: what was refused was written")
		}
	}
	p.again(nil)
}

// TestPut: each piece in its place, from both ends, and each one in each other place.
func TestPut(t *testing.T) {
	for _, size := range sizes {
		p := newPair(t)
		data := p.text(size)
		p.begin(data)
		list := plainCut(data)
		for n := range list {
			i := n / 2
			if n%2 == 0 {
				i = len(list) - 1 - n/2
			}
			for at := range list {
				if at != i && (at < 3 || at > len(list)-3 || at == i+1) {
					p.put(at, list[i])
				}
			}
			tells(t, "P11.2: Put", p.put(i, list[i]), api.OK)
		}
		p.force()
		p.again(nil)
		tells(t, "P11.3: Install", p.install(), api.OK)
		p.again(nil)
	}
}

// TestPutNoPlace: a piece in a place that there is not, also one that fits elsewhere.
func TestPutNoPlace(t *testing.T) {
	for _, size := range []int{0, 1, 80, 81, 5000} {
		p := newPair(t)
		data := p.text(size)
		for range 2 {
			for _, piece := range append(plainCut(data), "") {
				for _, i := range append([]int{(size + 79) / 80, (size + 159) / 80}, ints...) {
					if i < 0 || i >= (size+79)/80 || !p.now.comes {
						tells(t, "P11.2: Put in no place", p.put(i, piece), api.ErrStageForm)
					}
				}
			}
			p.begin(data)
		}
	}
}

// TestPutMisfit: pieces that don't fit, in a place that has none and in one that has one.
func TestPutMisfit(t *testing.T) {
	p := newPair(t)
	data := p.text(200)
	p.begin(data)
	for range 2 {
		for i, piece := range plainCut(data) {
			turned := []byte(piece)
			turned[len(turned)-1] ^= 1
			for _, other := range []string{"", piece[1:], piece[:len(piece)-1], piece + "\x00", "\x00" + piece, string(turned), piece + piece, piece[:1]} {
				tells(t, "P11.2: Put of what doesn't fit", p.put(i, other), api.ErrStageForm)
			}
		}
		p.putAll()
	}
}

// TestPutAgain: a place that has a piece keeps it, though the same one or another one that fits comes; also on a
// disk that has stopped.
func TestPutAgain(t *testing.T) {
	for i, at := range []int{0, 3, 37, 40, 75} {
		p := newPair(t)
		data := p.text(160)
		first, other := data[:80], double(data[:80], at)
		if i%2 == 1 {
			first, other = other, first
		}
		p.begin(data)
		p.put(0, first)
		for range 2 {
			tells(t, "P11.2: Put of the same piece", p.put(0, first), api.OK)
			tells(t, "P11.2: Put of another one", p.put(0, other), api.OK)
			p.opened()
		}
		p.disk.Stop(0)
		tells(t, "P11.2: Put of another one on a stopped disk", p.put(0, other), api.OK)
		tells(t, "P11.2: Put of a missing one on a stopped disk", p.put(1, data[80:]), api.ErrDiskDown)
		p.again(nil)
		p.put(0, other)
		p.putAll()
		p.install()
		if x, _ := p.stage.Current(); x != first+data[80:] {
			t.Error("P11.2: the piece did not stay")
		}
		p.again(nil)
	}
}

// TestInstall: nothing staged, one piece missing, all there, and again.
func TestInstall(t *testing.T) {
	for _, size := range sizes {
		for _, has := range []int{-1, 0, 90} {
			p := newPair(t)
			if has >= 0 {
				p.renew(p.text(has))
			}
			tells(t, "P11.3: Install of nothing", p.install(), api.ErrStageForm)
			data := p.text(size)
			list := plainCut(data)
			for _, out := range []int{0, len(list) / 2, len(list) - 1} {
				if len(list) > 0 {
					p.begin(data)
					for i := range list {
						if i != out {
							p.putOne(i)
						}
					}
					tells(t, "P11.3: Install with a piece missing", p.install(), api.ErrStageForm)
					p.force()
					p.again(nil)
					tells(t, "P11.3: Install with a piece missing, opened anew", p.install(), api.ErrStageForm)
				}
			}
			p.begin(data)
			p.putAll()
			tells(t, "P11.3: Install", p.install(), api.OK)
			tells(t, "P11.3: Install again", p.install(), api.ErrStageForm)
			p.again(nil)
			tells(t, "P11.3: Install again, opened anew", p.install(), api.ErrStageForm)
		}
	}
}

// TestInstallOthers: pieces that are another text's, but fit, make what they are.
func TestInstallOthers(t *testing.T) {
	p := newPair(t)
	for _, size := range []int{5, 80, 81 + 79, 400, 5000} {
		data := p.text(size)
		p.begin(data)
		for i, piece := range plainCut(data) {
			if i%3 != 2 && len(piece) >= 5 {
				piece = double(piece, i%(len(piece)-4))
			}
			p.put(i, piece)
		}
		p.install()
		if x, _ := p.stage.Current(); x == data || len(x) != size {
			t.Errorf("P11.3: the current text of %d bytes is not the pieces'", size)
		}
		p.again(nil)
	}
}

// TestHave: the places rise, in whatever order the pieces come.
func TestHave(t *testing.T) {
	p := newPair(t)
	d := dice(1)
	for _, size := range []int{240, 5000} {
		p.begin(p.text(size))
		for len(p.missing()) > 0 {
			list := p.missing()
			p.putOne(list[d.below(len(list))])
			if d.below(9) == 0 {
				p.opened()
			}
		}
		p.install()
	}
}

// TestForce: on a new stage, behind each other call, twice in a row, and on a disk that has stopped.
func TestForce(t *testing.T) {
	calls := []step{
		func(*pair) {},
		func(p *pair) { p.put(0, "a") },
		func(p *pair) { p.install() },
		func(p *pair) { p.begin(p.text(100)) },
		func(p *pair) { p.putOne(0) },
		func(p *pair) { p.put(0, "a") },
		func(p *pair) { p.install() },
		func(p *pair) { p.putOne(1) },
		func(p *pair) { p.install() },
		func(p *pair) { p.begin("") },
		func(p *pair) { see(p.stage) },
		func(p *pair) { p.opened() },
	}
	for n := range calls {
		p := newPair(t)
		for i, s := range calls {
			s(p)
			if i >= n {
				tells(t, "P11.2: Force", p.force(), api.OK)
				tells(t, "P11.2: Force twice", p.force(), api.OK)
				p.again(nil)
			}
		}
		p.disk.Stop(0)
		tells(t, "P11.2: Force on a stopped disk", p.force(), api.ErrDiskDown)
	}
}

// TestStoppedDisk: where the disk's error comes nothing is changed in what the stage tells; wrong arguments are
// told ahead of it.
func TestStoppedDisk(t *testing.T) {
	p := newPair(t)
	p.renew(p.text(90))
	data := p.text(161)
	p.begin(data)
	p.putOne(2)
	p.disk.Stop(0)
	for range 2 {
		tells(t, "P11.2: Put", p.put(1, data[80:160]), api.ErrDiskDown)
		tells(t, "P11.2, R1: Put of what doesn't fit", p.put(1, "a"), api.ErrStageForm)
		tells(t, "P11.2: Put in a place that has one", p.put(2, data[160:]), api.OK)
		tells(t, "P11.2: Begin", p.begin("ab"), api.ErrDiskDown)
		tells(t, "P11.3, R1: Install with a piece missing", p.install(), api.ErrStageForm)
		tells(t, "P11.2: Force", p.force(), api.ErrDiskDown)
	}
	p.again(all())
	p.putAll()
	p.disk.Stop(0)
	tells(t, "P11.3: Install", p.install(), api.ErrDiskDown)
	tells(t, "P11.3: Install again", p.install(), api.ErrDiskDown)
	p.again(all())
	tells(t, "P11.3: Install", p.install(), api.OK)
	p.disk.Stop(0)
	tells(t, "P11.2, R1: Put of nothing staged", p.put(0, "a"), api.ErrStageForm)
	tells(t, "P11.3, R1: Install of nothing staged", p.install(), api.ErrStageForm)
}

// TestManyTexts: texts staged and installed one behind the other, with a Force or without, whole ones and ones
// of which only some pieces came.
func TestManyTexts(t *testing.T) {
	t.Parallel()
	for i, size := range []int{1, 80, 333, 5000, 5000, 5000, 5000} {
		t.Run("", func(t *testing.T) {
			t.Parallel()
			p := newPair(t)
			for n := range 250 {
				p.begin(p.text(max(1, size-n*(i%2))))
				for range i % 3 {
					p.putOne(n % len(p.missing()))
					p.begin(p.text(size))
				}
				p.putAll()
				if i >= 4 {
					p.force()
				}
				tells(t, "P11.3: Install", p.install(), api.OK)
				if n%50 == 49 {
					p.again(nil)
				}
			}
			p.opened()
		})
	}
}

// TestManyBegins: texts that are staged, and never installed, leave room for further ones, also for one that
// came in their place.
func TestManyBegins(t *testing.T) {
	p := newPair(t)
	p.renew(p.text(5000))
	for n := range 400 {
		tells(t, "P11.2: Begin", p.begin(p.text(5000-n%2*4000)), api.OK)
		p.putOne(n % 12)
		p.putOne(12)
		if n%40 == 0 {
			p.again(nil)
		}
	}
	p.putAll()
	p.install()
	p.again(nil)
}

// TestNoStage: each call of no stage, and of one that Open did not make.
func TestNoStage(t *testing.T) {
	m, _ := chunk.Of("ab")
	for _, s := range []*stage.Stage{nil, new(stage.Stage)} {
		for _, m := range append(wrong(), m) {
			tells(t, "R3: Begin", s.Begin(m), api.ErrNil)
		}
		for _, i := range ints {
			tells(t, "R3: Put", s.Put(i, "ab"), api.ErrNil)
		}
		tells(t, "R3: Force", s.Force(), api.ErrNil)
		tells(t, "R3: Install", s.Install(), api.ErrNil)
		if !alike(see(s), seen{}) {
			t.Errorf("R3: no stage tells %v", see(s))
		}
	}
}
