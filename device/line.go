package device

import (
	"slices"

	"bedrock/api"
)

// content is what a line contains, in words.
type content [api.LineWords]uint64

// line is a cache line.
type line struct {
	persisted content
	current   content
	history   []Write
	// gone counts the stores that have left the history. Positions in the sequence of all stores stay valid with it while the history shrinks.
	gone uint64
}

// place returns the index of a word within its line.
func place(off uint64) uint64 {
	return off / api.WordSize % api.LineWords
}

// decode returns the content whose little-endian bytes p begins with.
func decode(p []byte) content {
	var c content
	for i := range c {
		b := p[i*api.WordSize : (i+1)*api.WordSize]
		c[i] = uint64(b[0]) | uint64(b[1])<<8 | uint64(b[2])<<16 | uint64(b[3])<<24 |
			uint64(b[4])<<32 | uint64(b[5])<<40 | uint64(b[6])<<48 | uint64(b[7])<<56
	}
	return c
}

// encode appends the little-endian bytes of c to p.
func encode(p []byte, c content) []byte {
	for _, w := range c {
		p = append(p, byte(w), byte(w>>8), byte(w>>16), byte(w>>24),
			byte(w>>32), byte(w>>40), byte(w>>48), byte(w>>56))
	}
	return p
}

func (l *line) store(off, v uint64) {
	l.current[place(off)] = v
	l.history = append(l.history, Write{Off: off, Value: v})
}

// end returns the position behind the last store ever executed on the line.
func (l *line) end() uint64 {
	return l.gone + uint64(len(l.history))
}

// after returns the persisted content with the first k stores of the history applied.
func (l *line) after(k int) content {
	c := l.persisted
	for _, w := range l.history[:k] {
		c[place(w.Off)] = w.Value
	}
	return c
}

func (l *line) persist(k int) {
	l.persisted = l.after(k)
	l.history = slices.Delete(l.history, 0, k)
	l.gone += uint64(k)
}

// persistTo persists the stores before a position that are not persistent yet.
func (l *line) persistTo(position uint64) {
	if position > l.gone {
		l.persist(int(position - l.gone))
	}
}
