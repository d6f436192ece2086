package stage

import (
	"tumulus/api"
	"tumulus/pdisk"
	"tumulus/redo"
)

const (
	// sectors are a part's: the log's, and the slots' behind them.
	sectors = 320
	// logSectors are enough: a record of two texts costs 19 at most, and there are two records at most.
	logSectors = sectors - slots*slotSectors
)

// load takes up what lies in the part, and answers where in its slot a half of a staged piece lies alone. It
// writes nothing: what is no stage's is told of a disk that has stopped, too, and stays as it is.
func (s *Stage) load() (alone []int, e api.Errno) {
	first, records, e := logged(s.disk, s.from)
	if e != api.OK {
		return nil, e
	}
	now, right := told(first, records)
	if !right {
		return nil, api.ErrStageForm
	}
	lying, right := s.lying(now)
	if !right {
		return nil, api.ErrStageForm
	}
	s.now = now
	return now.take(lying)
}

// logged is the first number and the records of a log that lies on a disk. It opens a copy: an Open writes.
func logged(d *pdisk.Disk, from int) (first int, records []string, e api.Errno) {
	copied, _ := pdisk.New(from + logSectors)
	for at := from; at < from+logSectors; at++ {
		b, _ := d.Read(at)
		copied.Write(at, b)
	}
	_, first, records, e = redo.Open(copied, from, logSectors)
	return first, records, e
}

// lying is what lies in each slot, or that no stage with these texts left it.
func (s *Stage) lying(now texts) (all [slots][]half, right bool) {
	right = true
reading:
	for slot := range all {
		for at := range slotSectors {
			sector, _ := s.disk.Read(s.place(slot, at))
			h, is := readHalf(string(sector), at)
			if !is || !now.leave(h, slot, at) {
				right = false
				break reading
			}
			all[slot] = append(all[slot], h)
		}
	}
	return all, right
}

// settle makes all safe, and leaves the log but one record. A half that lies alone goes: another piece that fits
// there, too, has other halves.
func (s *Stage) settle(alone []int) api.Errno {
	log, first, records, e := redo.Open(s.disk, s.from, logSectors)
	if e != api.OK {
		return e
	}
	s.log = log
	for _, at := range alone {
		if e := s.disk.Write(s.place(s.now.staged.thing.slot(), at), nil); e != api.OK {
			return e
		}
	}
	return log.Trim(first + max(0, len(records)-1))
}

// write writes a half of one of a text's pieces into that place of its slot.
func (s *Stage) write(t text, at int, h string) api.Errno {
	return s.disk.Write(s.place(t.slot(), at), []byte(half{t.turn, h}.laid(at)))
}

// place is where on the disk that place of a slot is.
func (s *Stage) place(slot, at int) int {
	return s.from + logSectors + slot*slotSectors + at
}
