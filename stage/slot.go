package stage

import (
	"strings"

	"tumulus/api"
	"tumulus/chunk"
)

const (
	// slots are two: while a text comes in one, the current text stays in the other one.
	slots = 2
	// halves are a piece's, which does not go into one sector.
	halves      = 2
	halfSize    = api.MaxChunk / halves // bytes of a half, at most
	slotSectors = halves * ((longest + api.MaxChunk - 1) / api.MaxChunk)
	headSize    = 3 * numberSize
)

// half is a half of a piece, as it lies in a sector.
type half struct {
	turn int // its text's; 0: the sector is blank
	text string
}

// cut is a piece's halves.
func cut(piece string) [halves]string {
	n := min(halfSize, len(piece))
	return [halves]string{piece[:n], piece[n:]}
}

// laid is a half as the sector in that place of a slot has it, but for the bytes 0 behind it. As a text it has
// one chunk, whose sum comes last.
func (h half) laid(at int) string {
	b := laid(h.turn, at, len(h.text)) + h.text
	m, _ := chunk.Of(b)
	return b + laid(m.Sums...)
}

// readHalf is what the sector in that place of a slot has, or that no stage wrote it.
func readHalf(sector string, at int) (half, bool) {
	if blank(sector) {
		return half{}, true
	}
	head := numbers(sector[:headSize])
	turn, size := head[0], head[2]
	if turn == 0 || size > halfSize {
		return half{}, false
	}
	h := half{turn, sector[headSize : headSize+size]}
	behind, is := strings.CutPrefix(sector, h.laid(at))
	return h, is && blank(behind)
}
