package layout

import (
	"math"

	"bedrock/api"
)

const (
	wordBits = 8 * api.WordSize
	// maxBits is the number of elements for which even flags need all words of the largest layout.
	maxBits = wordBits * api.MaxBlock
)

// Slot is the position of the first element of a field: the index of its word, the number of its lowest bit in that word, and its width in bits.
type Slot struct {
	Field Field
	Word  int
	Shift int
	Width int
}

// pack returns the slots of the fields and the number of words that they need, and false if these are too many.
func pack(fields []Field) ([]Slot, int, bool) {
	var slots []Slot
	word, used := 0, 0
	for _, f := range fields {
		// The number of a word with more elements than that could overflow.
		if f.Count > maxBits {
			return nil, 0, false
		}
		s := Slot{Field: f, Word: word, Shift: used, Width: f.Type.width()}
		if s.Shift+s.Width > wordBits {
			s.Word, s.Shift = word+1, 0
		}
		slots = append(slots, s)
		last, shift := s.place(f.Count - 1)
		if last >= api.MaxBlock {
			return nil, 0, false
		}
		word, used = last, shift+s.Width
	}
	return slots, word + 1, true
}

// place returns the index of the word of the element i, and the number of its lowest bit.
func (s Slot) place(i int) (word, shift int) {
	// Every width divides that of a word, so only the first word can have room for fewer elements than the others.
	first := (wordBits - s.Shift) / s.Width
	if i < first {
		return s.Word, s.Shift + i*s.Width
	}
	each := wordBits / s.Width
	i -= first
	return s.Word + 1 + i/each, i % each * s.Width
}

// mask returns the largest number that the bits of an element represent.
func (s Slot) mask() uint64 {
	return math.MaxUint64 >> (wordBits - s.Width)
}

// load returns the bits of the element i.
func (s Slot) load(ws []uint64, i int) uint64 {
	word, shift := s.place(i)
	return ws[word] >> shift & s.mask()
}

// store changes the bits of the element i to v.
func (s Slot) store(ws []uint64, i int, v uint64) {
	word, shift := s.place(i)
	ws[word] = ws[word]&^(s.mask()<<shift) | v<<shift
}
