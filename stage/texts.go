package stage

import (
	"tumulus/api"
	"tumulus/chunk"
)

// texts are those that a stage has.
type texts struct{ current, staged maybe[text] }

// begun is what comes of texts, if one of that manifest is staged, of which no piece has come.
func (t texts) begun(m chunk.Manifest) texts {
	// One that is in the place of a staged one has its slot, else the one in which the current text is not.
	turn := t.current.thing.turn + 1
	if staged, is := t.staged.get(); is {
		turn = staged.turn + slots
	}
	return texts{t.current, some(newText(turn, m))}
}

// installed is what comes of texts, if the staged one takes the current one's place.
func (t texts) installed() texts {
	return texts{current: t.staged}
}

// leadTo tells whether the next texts come of these by one call.
func (t texts) leadTo(next texts) bool {
	begun := t.begun(next.staged.thing.manifest)
	return next.laid() == begun.laid() || t.staged.there && next.laid() == t.installed().laid()
}

// right tells whether a stage may have such texts.
func (t texts) right() bool {
	current, is := t.current.get()
	staged, comes := t.staged.get()
	switch {
	case is && !mayCome(current.manifest), comes && !mayCome(staged.manifest):
		return false
	case comes:
		return staged.turn > current.turn && staged.slot() != current.slot()
	}
	return is
}

// newest is the turn of the text that was begun last, of those that there are.
func (t texts) newest() int {
	return max(t.current.thing.turn, t.staged.thing.turn)
}

// leave tells whether that half may lie in that place of a slot. Halves of earlier texts stay there till others
// are written over them.
func (t texts) leave(h half, slot, at int) bool {
	current, staged := t.current.thing, t.staged.thing
	newest := t.newest()
	if slot == current.slot() {
		newest = current.turn
	}
	switch h.turn {
	case 0:
		return true
	case current.turn:
		return slot == current.slot() && current.has(h, at)
	case staged.turn:
		return slot == staged.slot() && staged.has(h, at)
	}
	return h.turn%slots == slot && h.turn < newest
}

// take takes up the texts' pieces, and answers where in its slot a half of a staged piece lies alone.
func (t texts) take(lying [slots][]half) (alone []int, e api.Errno) {
	current, staged := t.current.thing, t.staged.thing
	_, right := current.take(lying[current.slot()])
	_, whole := current.whole()
	alone, fits := staged.take(lying[staged.slot()])
	if !right || !whole || !fits {
		return nil, api.ErrStageForm
	}
	return alone, api.OK
}
