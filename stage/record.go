package stage

import "tumulus/chunk"

// headNumbers stand ahead of a text's sums in a record: its turn, its Size, and how many sums there are.
const headNumbers = 3

// laid is a record: it tells all of texts but their pieces.
func (t texts) laid() string {
	return t.current.thing.laid() + t.staged.thing.laid()
}

// laid is a text in a record. One that is missing has turn 0.
func (t text) laid() string {
	return laid(t.turn, t.manifest.Size, len(t.manifest.Sums)) + laid(t.manifest.Sums...)
}

// told is what the log's records tell, or that no stage left them.
func told(first int, records []string) (texts, bool) {
	if len(records) == 0 {
		return texts{}, first == 1
	}
	var now texts
	for i, r := range records {
		next, right := readTexts(first+i, r)
		// What was ahead of a first record is known, if it is the first that ever came.
		known := i > 0 || first == 1
		if !right || known && !now.leadTo(next) {
			return texts{}, false
		}
		now = next
	}
	// A call that was cut short leaves its record behind the one that was there.
	return now, len(records) <= 2
}

// readTexts is what the record of that number tells, or that no stage laid it.
func readTexts(number int, record string) (texts, bool) {
	current, behind := readText(numbers(record))
	staged, _ := readText(behind)
	t := texts{current, staged}
	// No record's newest turn is above that of the one ahead by more than 2: so turns stay far from their end.
	return t, t.right() && t.newest() < 2*number && t.laid() == record
}

// readText is the text that a list of numbers tells, and what stands behind it.
func readText(list []int) (maybe[text], []int) {
	if len(list) < headNumbers {
		return maybe[text]{}, nil
	}
	turn, size, count, behind := list[0], list[1], list[2], list[headNumbers:]
	if turn == 0 {
		return maybe[text]{}, behind
	}
	count = min(count, len(behind))
	return some(newText(turn, chunk.Manifest{Size: size, Sums: behind[:count]})), behind[count:]
}
