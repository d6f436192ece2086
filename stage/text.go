package stage

import (
	"slices"

	"tumulus/api"
	"tumulus/chunk"
)

// longest is how many bytes a text has, at most.
const longest = 5000

// text is one whose pieces lie in a slot, as far as they have come.
type text struct {
	// turn is above that of each text that was begun earlier: it tells the halves of its pieces from what still
	// lies in its slot. It is 0 where there is no text.
	turn     int
	manifest chunk.Manifest
	pieces   []maybe[string] // by their places
}

// newText is a text of which no piece has come.
func newText(turn int, m chunk.Manifest) text {
	m.Sums = slices.Clone(m.Sums)
	return text{turn, m, make([]maybe[string], len(m.Sums))}
}

// mayCome tells whether a stage takes a text of that manifest.
func mayCome(m chunk.Manifest) bool {
	return chunk.Check(m) == api.OK && m.Size <= longest
}

// slot is where the text's pieces lie.
func (t text) slot() int {
	return t.turn % slots
}

// places are those of the pieces that have come.
func (t text) places() []int {
	var list []int
	for i, p := range t.pieces {
		if p.there {
			list = append(list, i)
		}
	}
	return list
}

// whole is all of the text, if no piece is missing.
func (t text) whole() (string, bool) {
	var list []string
	for _, p := range t.pieces {
		// One that is missing has no byte, and so fits nowhere.
		list = append(list, p.thing)
	}
	data, e := chunk.Join(t.manifest, list)
	return data, e == api.OK
}

// has tells whether a half may be one of the text's, in that place of the slot.
func (t text) has(h half, at int) bool {
	size := min(halfSize, t.manifest.Size-at*halfSize)
	return at/halves < len(t.pieces) && len(h.text) == max(0, size)
}

// take takes up the pieces of which all halves lie in the slot, and answers the places of halves that lie there
// alone; or that no stage left the slot so.
func (t text) take(lying []half) (alone []int, right bool) {
	for i := range t.pieces {
		var piece string
		var places []int
		for at := i * halves; at < (i+1)*halves; at++ {
			if lying[at].turn == t.turn {
				piece += lying[at].text
				places = append(places, at)
			}
		}
		if len(places) < halves {
			alone = append(alone, places...)
			continue
		}
		if !chunk.Fits(t.manifest, i, piece) {
			return nil, false
		}
		t.pieces[i] = some(piece)
	}
	return alone, true
}
