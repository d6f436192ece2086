package stage_test

import (
	"encoding/binary"
	"math"
	"slices"
	"strings"
	"testing"

	"tumulus/api"
	"tumulus/chunk"
	"tumulus/pdisk"
	"tumulus/redo"
	"tumulus/stage"
)

// spoilt looks that Open tells that what lies there is no stage's, also of a disk that has stopped, and writes
// nothing.
func spoilt(t *testing.T, what string, d *pdisk.Disk, from int) {
	t.Helper()
	before := sectors(t, d)
	refused(t, "P11.1: "+what, d, from, api.ErrRedoSpoilt, api.ErrStageForm)
	d.Stop(0)
	refused(t, "P11.1, R1: stopped, "+what, d, from, api.ErrRedoSpoilt, api.ErrStageForm)
	d.Crash(nil)
	if !slices.Equal(sectors(t, d), before) {
		t.Errorf("P11.1: %s: Open wrote into what is no stage's", what)
	}
}

// TestSpoiltBlank: a part whose bytes are all 0 is a new stage's, also one that somebody made so; with one byte
// that is another one it is none's, wherever this is.
func TestSpoiltBlank(t *testing.T) {
	d := fresh(t, least+20)
	for at := 10; at < least+10; at++ {
		lay(t, d, at, strings.Repeat("\x00", at*7%64)+"\x01")
		spoilt(t, "a byte in a part without a stage", d, 10)
		lay(t, d, at, "")
	}
	lay(t, d, 9, "beside")
	lay(t, d, least+10, "beside")
	opens(t, "P11.1: a part whose bytes are all 0 again", d, 10, plain{})
	lay(t, d, 0, make([]string, least)...)
	opens(t, "P11.1: another part whose bytes are all 0 again", d, 0, plain{})
}

// lived is a stage on which something was done, and forced: there are halves of texts that came earlier in
// either slot, and beside them those of a current text and of a staged one.
func lived(t *testing.T, at int) *pair {
	t.Helper()
	p := unopened(t, fresh(t, least+at+3), at)
	p.opened()
	p.renew(p.text(5000))
	p.begin(p.text(5000))
	p.putAll()
	p.begin(p.text(3000))
	p.putAll()
	p.install()
	p.renew(p.text(4000))
	p.begin(p.text(2500))
	for i := range 20 {
		p.putOne(i)
	}
	p.force()
	return p
}

// TestSpoiltByte: one byte of a stage's part changed alone: every third one of each sector. Behind these the
// stage is as it was.
func TestSpoiltByte(t *testing.T) {
	t.Parallel()
	p := lived(t, 2)
	list := sectors(t, p.disk)
	for at := p.from; at < p.from+least; at++ {
		for place := at % 3; place < 64; place += 3 {
			b := []byte(list[at])
			b[place] ^= []byte{1, 2, 128, 255}[place%4]
			lay(t, p.disk, at, string(b))
			refused(t, "P11.1: a byte that is another one", p.disk, p.from, api.ErrRedoSpoilt, api.ErrStageForm)
		}
		lay(t, p.disk, at, list[at])
	}
	p.opened()
	goesOn(p)
}

// TestSpoiltSector: a stage's sectors, with another text in each; and with one of the others.
func TestSpoiltSector(t *testing.T) {
	t.Parallel()
	p := lived(t, 0)
	list := sectors(t, p.disk)
	for at := range least {
		for _, other := range []string{"x", strings.Repeat("\xff", 64), strings.Repeat("\x00", 63) + "\x01", list[(at+1)%least], list[(at+126)%least]} {
			// The log may have records' sectors in other places.
			if other != list[at] && strings.Trim(other, "\x00") != "" && (at >= logPart || other != list[at+1]) {
				lay(t, p.disk, at, other)
				spoilt(t, "a sector of another text", p.disk, 0)
			}
		}
		lay(t, p.disk, at, list[at])
	}
	p.opened()
}

// TestSpoiltMoved: a stage's sectors in other places; and all of a part but bytes 0 or others.
func TestSpoiltMoved(t *testing.T) {
	p := lived(t, 5)
	list := sectors(t, p.disk)[5 : least+5]
	spoilt(t, "a stage's sectors in another part", laid(t, list), 0)
	spoilt(t, "a stage's sectors, one place on", p.disk, 6)
	spoilt(t, "a stage's sectors, one place ahead", p.disk, 4)
	for _, other := range []string{"#", strings.Repeat("\xff", 64), strings.Repeat("\x00", 63) + "\x01"} {
		d := fresh(t, least)
		lay(t, d, 0, slices.Repeat([]string{other}, least)...)
		spoilt(t, "another one's bytes", d, 0)
	}
	p.opened()
}

// TestSpoiltMissing: a stage's part, without one sector of the current text or without its log's first one.
func TestSpoiltMissing(t *testing.T) {
	p := newPair(t)
	p.renew(p.text(500))
	list := sectors(t, p.disk)
	for _, at := range append([]int{0}, places(logPart+slotPart, 14)...) {
		lay(t, p.disk, at, "")
		spoilt(t, "a sector that is missing", p.disk, 0)
		lay(t, p.disk, at, list[at])
	}
	p.opened()
}

// places are so many from one on.
func places(from, n int) []int {
	var list []int
	for i := range n {
		list = append(list, from+i)
	}
	return list
}

// What follows lays a part as a stage lays it, by words of its own: so that one can be put together as no stage
// leaves it.

const (
	logPart  = 68
	slotPart = 126
)

func number(list ...int) string {
	var b []byte
	for _, n := range list {
		b = binary.BigEndian.AppendUint32(b, uint32(n))
	}
	return string(b)
}

// toldBy is a text in a record.
func toldBy(turn int, m chunk.Manifest) string {
	return number(turn, m.Size, len(m.Sums)) + number(m.Sums...)
}

var nothing = toldBy(0, chunk.Manifest{})

// sealed are bytes with their sum behind them.
func sealed(b string) string {
	return b + number(plainSum(b))
}

// halfOf is a half in that place of its slot.
func halfOf(turn, at int, text string) string {
	return sealed(number(turn, at, len(text)) + text)
}

// forged is a disk that has a log of these records, behind so many that were let go, and what lies in the slots.
func forged(t *testing.T, gone int, records []string, lying ...map[int]string) *pdisk.Disk {
	t.Helper()
	d := fresh(t, least)
	l, _, _, e := redo.Open(d, 0, logPart)
	for range gone {
		l.Append("")
		l.Trim(l.Next())
	}
	for _, r := range records {
		if e == api.OK {
			e = l.Append(r)
		}
	}
	if e != api.OK || l.Force() != api.OK {
		t.Fatalf("P8.2: a log of %d records: %d", len(records), e)
	}
	for slot, list := range lying {
		for at, text := range list {
			lay(t, d, logPart+slot*slotPart+at, text)
		}
	}
	return d
}

// halvesOf are those of a text's pieces, but for the pieces in some places.
func halvesOf(turn int, data string, without ...int) map[int]string {
	list := map[int]string{}
	for i, piece := range plainCut(data) {
		if !slices.Contains(without, i) {
			n := min(40, len(piece))
			list[2*i] = halfOf(turn, 2*i, piece[:n])
			list[2*i+1] = halfOf(turn, 2*i+1, piece[n:])
		}
	}
	return list
}

// with is a list with one more sector, or another one, in some places; an empty one is none.
func with(list map[int]string, text string, places ...int) map[int]string {
	other := clone(list)
	for _, at := range places {
		other[at] = text
	}
	return other
}

// TestForgedRecords: logs of records that no stage leaves.
func TestForgedRecords(t *testing.T) {
	data, other := strings.Repeat("0123456789", 9), strings.Repeat("ab", 60)
	m, n := plainOf(data), plainOf(other)
	first, second := halvesOf(1, data), halvesOf(2, other)
	staged, current := nothing+toldBy(1, m), toldBy(1, m)+nothing
	both := toldBy(1, m) + toldBy(2, n)
	opens(t, "P11.1: a log in which nothing was laid", forged(t, 0, nil), 0, plain{})
	opens(t, "P11.1: a staged text", forged(t, 0, []string{staged}), 0, plain{m: m, comes: true})
	opens(t, "P11.1: a text being staged in its place", forged(t, 0, []string{staged, nothing + toldBy(3, n)}, nil, first), 0, plain{m: n, comes: true})
	opens(t, "P11.1: a current text", forged(t, 1, []string{current}, nil, first), 0, plain{current: data, is: true})
	opens(t, "P11.1: a text being installed", forged(t, 0, []string{staged, current}, nil, first), 0, plain{current: data, is: true})
	opens(t, "P11.1: both", forged(t, 2, []string{both}, nil, first), 0, plain{current: data, is: true, m: n, comes: true})
	opens(t, "P11.1: a text being staged", forged(t, 1, []string{current, both}, nil, first), 0, plain{current: data, is: true, m: n, comes: true})
	opens(t, "P11.1: another one being installed", forged(t, 2, []string{both, toldBy(2, n) + nothing}, second, first), 0, plain{current: other, is: true})
	opens(t, "P11.1: a text whose turn is the greatest", forged(t, 4, []string{nothing + toldBy(9, n)}), 0, plain{m: n, comes: true})
	for what, d := range map[string]*pdisk.Disk{
		"a log of which all was let go":             forged(t, 1, nil),
		"a record of nothing":                       forged(t, 1, []string{nothing + nothing}),
		"a record without its last byte":            forged(t, 1, []string{staged[:len(staged)-1]}),
		"a record without its last number":          forged(t, 1, []string{staged[:len(staged)-4]}),
		"a record and a byte":                       forged(t, 1, []string{staged + "\x00"}),
		"a record and a number":                     forged(t, 1, []string{staged + "\x00\x00\x00\x00"}),
		"half a record":                             forged(t, 1, []string{nothing}),
		"the other half":                            forged(t, 1, []string{toldBy(1, m)}, nil, first),
		"a first record of a current text":          forged(t, 0, []string{current}, nil, first),
		"a first record of both":                    forged(t, 0, []string{both}, nil, first),
		"a first record of turn 2":                  forged(t, 0, []string{nothing + toldBy(2, m)}),
		"a first record of turn 3":                  forged(t, 0, []string{nothing + toldBy(3, m)}),
		"a staged text in the wrong slot":           forged(t, 5, []string{nothing + toldBy(2, m)}),
		"two texts of one turn":                     forged(t, 5, []string{toldBy(2, m) + toldBy(2, n)}, halvesOf(2, data)),
		"two texts in one slot":                     forged(t, 5, []string{toldBy(1, m) + toldBy(3, n)}, nil, first),
		"a staged text of an earlier turn":          forged(t, 5, []string{toldBy(2, m) + toldBy(1, n)}, halvesOf(2, data)),
		"a staged text whose turn is too great":     forged(t, 4, []string{nothing + toldBy(11, m)}),
		"a current text whose turn is too great":    forged(t, 4, []string{toldBy(10, m) + nothing}, halvesOf(10, data)),
		"a turn that is the greatest number":        forged(t, 4, []string{nothing + toldBy(math.MaxUint32, m)}),
		"a text without a turn":                     forged(t, 4, []string{nothing + toldBy(0, m)}),
		"a current text without a turn":             forged(t, 4, []string{toldBy(0, m) + toldBy(1, n)}),
		"a text of one byte more":                   forged(t, 1, []string{nothing + toldBy(1, chunk.Manifest{Size: 161, Sums: m.Sums})}),
		"a text of one sum less":                    forged(t, 1, []string{nothing + toldBy(1, chunk.Manifest{Size: m.Size, Sums: m.Sums[1:]})}),
		"a text of 5001 bytes":                      forged(t, 1, []string{nothing + toldBy(1, plainOf(strings.Repeat("x", 5001)))}),
		"a current text of 5001 bytes":              forged(t, 1, []string{toldBy(1, plainOf(strings.Repeat("x", 5001))) + nothing}, nil, halvesOf(1, strings.Repeat("x", 5001))),
		"a text of too great a Size":                forged(t, 1, []string{nothing + number(1, math.MaxUint32, 0)}),
		"a text of too many sums":                   forged(t, 1, []string{nothing + number(1, 90, math.MaxUint32) + number(m.Sums...)}),
		"a text of one sum more than there are":     forged(t, 1, []string{nothing + number(1, 90, 3) + number(m.Sums...)}),
		"a record twice":                            forged(t, 1, []string{staged, staged}),
		"a current text twice":                      forged(t, 1, []string{current, current}, nil, first),
		"a text installed that was not staged":      forged(t, 1, []string{staged, toldBy(1, n) + nothing}, nil, halvesOf(1, other)),
		"a text that came of another turn":          forged(t, 3, []string{current, toldBy(1, m) + toldBy(4, n)}, nil, first),
		"another current text beside a staged one":  forged(t, 3, []string{current, toldBy(1, n) + toldBy(2, n)}, nil, halvesOf(1, other)),
		"a current text without one ahead":          forged(t, 3, []string{current, staged}, nil, first),
		"three records":                             forged(t, 1, []string{current, both, toldBy(1, m) + toldBy(4, m)}, nil, first),
		"three records from the first one on":       forged(t, 0, []string{staged, current, both}, nil, first),
		"a record that is no stage's ahead":         forged(t, 1, []string{"", staged}),
		"a record that is no stage's behind":        forged(t, 1, []string{staged, ""}),
		"an installed text, a piece of which lacks": forged(t, 1, []string{current}, nil, halvesOf(1, data, 1)),
	} {
		spoilt(t, what, d, 0)
	}
}

// TestForgedHalves: what lies in the slots as no stage leaves it.
func TestForgedHalves(t *testing.T) {
	data, other := strings.Repeat("0123456789", 26)[:250], strings.Repeat("ab", 85)+"c"
	m, n := plainOf(data), plainOf(other)
	record := toldBy(6, m) + toldBy(9, n)
	current, staged := halvesOf(6, data), halvesOf(9, other, 1)
	half := strings.Repeat("z", 40)
	right := map[string][2]map[int]string{
		"as it is":                               {current, staged},
		"a staged text without pieces":           {current, nil},
		"a half of an earlier text":              {current, with(staged, halfOf(1, 2, half), 2)},
		"a half of an earlier text without text": {current, with(staged, halfOf(7, 3, ""), 3)},
		"a half of an earlier text behind":       {with(current, halfOf(4, 125, half), 125), staged},
		"a half of a text that was replaced":     {current, with(staged, halfOf(7, 125, "z"), 125)},
		"a half alone":                           {current, with(staged, halfOf(9, 2, half), 2)},
		"a second half alone":                    {current, with(staged, halfOf(9, 3, half), 3)},
	}
	have := map[string][]int{"a staged text without pieces": nil}
	for what, lying := range right {
		pieces := map[int]string{0: other[:80], 2: other[160:]}
		if _, is := have[what]; is {
			pieces = nil
		}
		d := forged(t, 7, []string{record}, lying[0], lying[1])
		opens(t, "P11.1: "+what, d, 0, plain{current: data, is: true, m: n, comes: true, pieces: pieces})
	}
	for what, lying := range map[string][2]map[int]string{
		"a missing half of the current text":        {with(current, "", 3), staged},
		"a missing last half":                       {with(current, "", 7), staged},
		"a missing piece":                           {halvesOf(6, data, 0), staged},
		"a half of an earlier text instead":         {with(current, halfOf(4, 2, data[80:120]), 2), staged},
		"another half in the current text":          {with(current, halfOf(6, 2, half), 2), staged},
		"another half in a staged piece":            {current, with(staged, halfOf(9, 0, half), 0)},
		"a half that is too short":                  {with(current, halfOf(6, 2, data[80:119]), 2), staged},
		"a half alone that is too short":            {current, with(staged, halfOf(9, 2, half[1:]), 2)},
		"a half alone that is too long":             {current, with(staged, halfOf(9, 3, half+"z"), 3)},
		"an earlier half that is too long":          {current, with(staged, halfOf(7, 3, half+"z"), 3)},
		"a last half that is too long":              {current, with(staged, halfOf(9, 4, other[160:]+"z"), 4)},
		"a second half of what has one alone":       {current, with(staged, halfOf(9, 5, "z"), 5)},
		"a half behind the current text's":          {with(current, halfOf(6, 8, ""), 8), staged},
		"a half behind the staged text's":           {current, with(staged, halfOf(9, 6, ""), 6)},
		"a half behind the staged text's, of text":  {current, with(staged, halfOf(9, 125, half), 125)},
		"a half of another place":                   {with(current, current[2], 3), staged},
		"a half of another slot":                    {with(current, halfOf(9, 9, half), 9), staged},
		"a half of the current text elsewhere":      {current, with(staged, current[3], 3)},
		"a half of an earlier text in another slot": {with(current, halfOf(3, 9, half), 9), staged},
		"a half of a later text":                    {current, with(staged, halfOf(11, 3, half), 3)},
		"a half of a later text in this slot":       {with(current, halfOf(8, 9, half), 9), staged},
		"a half of a far later text":                {current, with(staged, halfOf(math.MaxUint32, 3, half), 3)},
		"a half of no text":                         {with(current, halfOf(0, 9, half), 9), staged},
		"a half of no text and no bytes":            {with(current, halfOf(0, 9, ""), 9), staged},
		"a half without its sum":                    {current, with(staged, number(7, 3, 40)+half, 3)},
		"a half with another sum":                   {current, with(staged, number(7, 3, 40)+half+number(plainSum(half)), 3)},
		"a half and a byte":                         {current, with(staged, halfOf(7, 3, "z")+"z", 3)},
		"a half and a byte at the end":              {current, with(staged, halfOf(7, 3, half)+strings.Repeat("\x00", 7)+"z", 3)},
		"a half with bytes 0 ahead of its sum":      {current, with(staged, sealed(number(7, 3, 1)+"z\x00"), 3)},
		"a half of too many bytes":                  {current, with(staged, sealed(number(7, 3, math.MaxUint32)+half), 3)},
		"a half of 52 bytes":                        {current, with(staged, (number(7, 3, 52) + strings.Repeat("z", 52))[:64], 3)},
	} {
		spoilt(t, what, forged(t, 7, []string{record}, lying[0], lying[1]), 0)
	}
	alone := toldBy(6, m) + nothing
	opens(t, "P11.1: a half of a text that was replaced, and nothing staged", forged(t, 7, []string{alone}, current, map[int]string{0: halfOf(5, 0, half)}), 0, plain{current: data, is: true})
	spoilt(t, "a half of a later text, and nothing staged", forged(t, 7, []string{alone}, current, map[int]string{0: halfOf(7, 0, half)}), 0)
	spoilt(t, "a half in the other slot, ahead of a first text", forged(t, 7, []string{nothing + toldBy(9, n)}, map[int]string{0: halfOf(2, 0, half)}, staged), 0)
	spoilt(t, "a half ahead of a first text", forged(t, 0, nil, nil, map[int]string{0: halfOf(1, 0, half)}), 0)
}

// TestForgedHalfGoes: a half that lies alone is gone behind an Open, also behind one that a crash cut short.
func TestForgedHalfGoes(t *testing.T) {
	other := strings.Repeat("0123456789", 26)
	n := plainOf(other)
	for _, at := range []int{2, 3} {
		for stop := range 7 {
			for keep := range 2 {
				d := forged(t, 4, []string{nothing + toldBy(9, n)}, nil, map[int]string{at: halfOf(9, at, strings.Repeat("z", 40))})
				if stop > 0 {
					d.Stop(stop)
					stage.Open(d, 0)
					d.Crash(keeps(keep, 1))
				}
				opens(t, "P11.1: a half alone", d, 0, plain{m: n, comes: true})
				if b, _ := d.Read(logPart + slotPart + at); strings.Trim(string(b), "\x00") != "" {
					t.Errorf("P11.4: a half alone stays")
				}
			}
		}
	}
}

// TestForgedDrawn: a stage's sectors in another order, or with those of an earlier time: Open tells a stage whose
// current text is one that was installed, or none.
func TestForgedDrawn(t *testing.T) {
	t.Parallel()
	d := dice(1)
	p := newPair(t)
	var installed []string
	var times [][]string
	for range 6 {
		p.renew(p.text(300 + d.below(300)))
		installed = append(installed, p.now.current)
		times = append(times, sectors(t, p.disk))
		p.begin(p.text(400))
		p.putOne(3)
		p.force()
		times = append(times, sectors(t, p.disk))
	}
	for range 3000 {
		list := slices.Clone(times[d.below(len(times))])
		earlier := times[d.below(len(times))]
		for range 1 + d.below(4) {
			at := d.below(90)
			if at >= 75 {
				at = 68 + slotPart + at - 75
			}
			list[at] = earlier[(at+d.below(2)*d.below(3))%least]
		}
		s, e := stage.Open(laid(t, list), 0)
		if e == api.OK {
			if x, is := s.Current(); is && slices.Contains(installed, x) {
				continue
			}
		}
		if s != nil || e != api.ErrRedoSpoilt && e != api.ErrStageForm {
			t.Fatalf("P11.1: Open: %v, %d", see(s), e)
		}
	}
}

// TestAnything: nothing panics, whatever comes in, in each state of a stage and its disk: behind a crash without
// an Open too, and where somebody else wrote.
func TestAnything(t *testing.T) {
	t.Parallel()
	states := []step{
		func(*pair) {},
		func(p *pair) { p.stage.Put(1, plainCut(p.now.data)[1]) },
		func(p *pair) { p.stage.Begin(plainOf("ab")) },
		func(p *pair) { p.stage.Put(0, "ab"); p.stage.Install() },
		func(p *pair) { p.disk.Stop(0) },
		func(p *pair) { p.disk.Stop(1) },
		func(p *pair) { p.disk.Stop(4) },
		func(p *pair) { p.disk.Crash(nil) },
		func(p *pair) { p.disk.Crash(nil); lay(p.t, p.disk, 0, slices.Repeat([]string{"#"}, least)...) },
		func(p *pair) { p.disk.Crash(nil); lay(p.t, p.disk, 0, make([]string, least)...) },
		func(p *pair) { stage.Open(p.disk, 0) },
		func(p *pair) { redo.Open(p.disk, 0, logPart) },
	}
	for _, row := range rows(2, states...) {
		p := newPair(t)
		p.renew(p.text(90))
		p.begin(p.text(170))
		p.putOne(0)
		for _, s := range row {
			if !p.disk.Down() {
				s(p)
			}
		}
		for _, n := range ints {
			for _, piece := range []string{"", "ab", plainCut(p.now.data)[0], strings.Repeat("z", 5001)} {
				p.stage.Put(n, piece)
			}
			p.stage.Begin(chunk.Manifest{Size: n, Sums: []int{n}})
			p.stage.Begin(chunk.Manifest{Size: n})
			p.stage.Install()
			p.stage.Force()
			see(p.stage)
			stage.Open(p.disk, n)
		}
		for _, m := range wrong() {
			p.stage.Begin(m)
		}
		for range 30 {
			p.stage.Begin(plainOf(p.text(5000)))
			p.stage.Install()
		}
		stage.Open(p.disk, 0)
		p.disk.Crash(nil)
		stage.Open(p.disk, 0)
	}
}
