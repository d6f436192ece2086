package redo_test

import (
	"testing"

	"tumulus/api"
)

// lengths are of texts around those at which a record costs more.
var lengths = []int{0, 1, 31, 32, 33, 35, 36, 37, 63, 64, 65, 95, 96, 100, 127, 128, 255, 256, 257, 511, 512, 991, 992, 993, 1023, 1024}

// parts are so many sectors as parts may have.
var parts = []int{8, 9, 10, 11, 12, 15, 16, 17, 33, 40, 41, 64, 100, 1023, 1024}

// fill appends texts of that length till they cost all that a log has to have room for; each must be taken.
func fill(p *pair, length int) {
	p.t.Helper()
	for p.now().cost()+cost(length) <= p.sectors-6 {
		if e := p.append(p.text(length)[:length]); e != api.OK {
			p.t.Fatalf("P8.2: Append of %d bytes to %d records of a cost of %d in %d sectors: %d", length, len(p.now().records), p.now().cost(), p.sectors, e)
		}
	}
}

// TestRoom: records of one length, on a new log, behind a Trim of some, and of all.
func TestRoom(t *testing.T) {
	t.Parallel()
	for _, sectors := range parts {
		for _, length := range lengths {
			p := newPair(t, sectors)
			for round := range 3 {
				fill(p, length)
				p.opened()
				now := p.now()
				p.trim(now.first + len(now.records)*(round+1)/3)
				fill(p, length)
				p.again(nil)
				p.trim(p.now().next())
			}
		}
	}
}

// TestRoomMixed: records of lengths that are drawn, over many rounds of the ring, through crashes too.
func TestRoomMixed(t *testing.T) {
	for _, sectors := range parts {
		d := dice(sectors)
		p := newPair(t, sectors)
		for range 4000 / sectors {
			length := lengths[d.below(len(lengths))]
			for p.now().cost()+cost(length) > p.sectors-6 && len(p.now().records) > 0 {
				fill(p, d.below(64))
				p.trim(p.now().first + 1 + d.below(len(p.now().records)))
			}
			if cost(length) <= p.sectors-6 {
				tells(t, "P8.2: Append", p.append(p.text(length)[:length]), api.OK)
			}
			switch d.below(8) {
			case 0:
				p.again(all())
			case 1:
				p.again(nil)
			case 2:
				p.opened()
			}
		}
	}
}

// TestRoomLeast: the least part has room for a record of fewer than 32 bytes again and again, however often the
// ring goes round.
func TestRoomLeast(t *testing.T) {
	for _, length := range []int{0, 1, 31} {
		p := newPair(t, 8)
		for i := range 500 {
			tells(t, "P8.2: Append", p.append(p.text(length)[:length]), api.OK)
			if i%3 == 0 {
				p.again(all())
			}
			tells(t, "P8.3: Trim", p.trim(p.now().next()), api.OK)
			if i%5 == 0 {
				p.again(nil)
			}
		}
		if p.log.Next() != 501 {
			t.Errorf("P8.2: Next %d behind 500 records", p.log.Next())
		}
	}
}

// TestFull: at some time a log is full; then nothing is changed, shorter records may be taken still, and a Trim
// makes room.
func TestFull(t *testing.T) {
	for _, sectors := range parts {
		for _, length := range []int{0, 1, 100, 1024} {
			p := newPair(t, sectors)
			// More text than sectors have bytes can't be laid, nor more records.
			for i := 0; p.append(p.text(length)[:length]) == api.OK; i++ {
				if i > sectors*64 {
					t.Fatalf("P8.2: %d records of %d bytes in %d sectors", i, length, sectors)
				}
			}
			tells(t, "P8.2: Append to a full log", p.append(p.text(length)[:length]), api.ErrRedoFull)
			p.opened()
			for p.append("") == api.OK {
			}
			tells(t, "P8.2: Append of no bytes to a full log", p.append(""), api.ErrRedoFull)
			p.again(all())
			tells(t, "P8.2: Append to a full log that was opened again", p.append(p.text(1024)), api.ErrRedoFull)
			if len(p.now().records) > 0 {
				p.trim(p.now().first + 1)
			}
			p.again(nil)
			p.trim(p.now().next())
			fill(p, length)
			p.again(all())
		}
	}
}
