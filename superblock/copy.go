package superblock

import (
	"bedrock/api"
	"bedrock/crc"
	"bedrock/mem"
)

// copies is the number of copies; each one is the line of its number.
const copies = 2

// checkWord is the number of the word that makes a line a copy. checkMark makes it differ from 0, whatever the checksum is.
const (
	checkWord = api.LineWords - 1
	checkMark = 1 << 32
)

// words contains the words of a copy.
type words [api.LineWords]uint64

// partBits is the number of bits of each number in a packed word.
const partBits = 16

// pack returns a word with the numbers, the first one in the lowest bits.
func pack(parts ...int) uint64 {
	w := uint64(0)
	for i, part := range parts {
		w |= uint64(part) << (i * partBits)
	}
	return w
}

// unpack returns number i of a packed word.
func unpack(w uint64, i int) int {
	return int(uint16(w >> (i * partBits)))
}

// words returns the copy of a valid s.
func (s Super) words() words {
	ws := words{
		Magic,
		s.Gen,
		pack(s.Version, s.Lines, s.Redo, s.Undo),
		pack(s.Descriptors, s.Queue, s.Table),
	}
	ws[checkWord] = checkMark + uint64(crc.Words(ws[:checkWord]))
	return ws
}

// super returns the valid Super of which the words are the copy, and whether there is one.
func (ws words) super() (Super, bool) {
	s := Super{
		Version:     unpack(ws[2], 0),
		Lines:       unpack(ws[2], 1),
		Redo:        unpack(ws[2], 2),
		Undo:        unpack(ws[2], 3),
		Descriptors: unpack(ws[3], 0),
		Queue:       unpack(ws[3], 1),
		Table:       unpack(ws[3], 2),
		Gen:         ws[1],
	}
	if !s.Valid() || s.words() != ws {
		return Super{}, false
	}
	return s, true
}

// wordOf returns the offset of a word of the copy of that number.
func wordOf(number, word int) uint64 {
	return uint64(number)*api.LineSize + uint64(word)*api.WordSize
}

// write returns the program that writes s to a copy. Because the stores to a line become persistent in their order, every image between the first and the last one has a check word of 0.
func (s Super) write(number int) mem.Program {
	writes := []mem.Write{{Off: wordOf(number, checkWord)}}
	for i, w := range s.words() {
		writes = append(writes, mem.Write{Off: wordOf(number, i), Value: w})
	}
	return mem.Stores(writes)
}

// found is what a copy is found to be: good, then with its Super, or not.
type found struct {
	super Super
	good  bool
}

func (f found) state() api.Errno {
	if !f.good {
		return api.ErrSum
	}
	return api.OK
}

// find loads a copy.
func find(m mem.Memory, number int) found {
	var ws words
	for i := range ws {
		ws[i] = m.Load(wordOf(number, i))
	}
	s, is := ws.super()
	if !is || uint64(s.Lines) > linesOf(m) {
		return found{}
	}
	return found{super: s, good: true}
}

// pair is what the two copies are found to be.
type pair [copies]found

// newest returns the number of the good copy with the larger generation, of equal ones the first copy.
func (p pair) newest() (int, api.Errno) {
	if !p[0].good && !p[1].good {
		return 0, api.ErrSum
	}
	if !p[0].good || p[1].good && p[1].super.Gen > p[0].super.Gen {
		return 1, api.OK
	}
	return 0, api.OK
}

// other returns the number of the other copy.
func other(number int) int {
	return copies - 1 - number
}
