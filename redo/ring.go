package redo

import "strings"

// load takes up what lies in the part, and answers the records' texts.
func (l *Log) load() []string {
	all := l.contents()
	top, ring := all[0], all[1:]
	if top.kind == unused {
		// A root is safe ahead of the first piece, and never goes.
		for _, c := range ring {
			insist(c.kind == unused)
		}
		l.first = 1
		return nil
	}
	insist(top.kind == root && top.age >= 1 && top.number >= 1 && top.at < len(ring) && top.text == l.name())
	for _, c := range ring {
		insist(c.kind == unused || c.isPiece(top.age))
	}
	l.age, l.first, l.start = top.age, top.number, top.at
	return l.follow(ring, top.size)
}

// follow goes through the records in the ring, as far as each is whole, and answers their texts. So many of
// them are safe; each further one was written since the root was, and is of its age.
func (l *Log) follow(ring []content, safe int) []string {
	var texts []string
	for at := l.start; ; {
		c := ring[at]
		sure := len(texts) < safe
		text, whole := record(ring, at, head{kind: piece, age: c.age, number: l.Next(), size: c.size})
		if !whole || !sure && c.age != l.age {
			insist(!sure)
			return texts
		}
		texts = append(texts, text)
		l.sizes = append(l.sizes, pieces(c.size))
		at = (at + pieces(c.size)) % len(ring)
	}
}

// record is the text of the record that lies from that place of the ring on, and whether all its pieces are
// there: those whose heads are as wanted, each with its own at.
func record(ring []content, at int, want head) (string, bool) {
	var text strings.Builder
	for i := range pieces(want.size) {
		want.at = i
		c := ring[(at+i)%len(ring)]
		if c.head != want {
			return "", false
		}
		text.WriteString(c.text)
	}
	return text.String(), true
}

// contents is what the part's sectors have.
func (l *Log) contents() []content {
	all := make([]content, l.sectors)
	for i := range all {
		all[i] = readSector(need(l.disk.Read(l.from + i)))
	}
	return all
}

// name tells which part it is, so that no other part's root is taken for this one's.
func (l *Log) name() string {
	return string(numbers(l.from, l.sectors))
}

// settle makes all safe: the records first, as the root tells how many are.
func (l *Log) settle() {
	done(l.disk.Flush())
	l.write(l.from, content{head{root, l.age, l.first, l.start, len(l.sizes)}, l.name()})
	done(l.disk.Flush())
}

// write writes a sector.
func (l *Log) write(place int, c content) {
	done(l.disk.Write(place, c.laid()))
}
