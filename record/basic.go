package record

import "bedrock/api"

// nameWords is the number of words of a name: its length and its bytes.
const nameWords = 1 + api.MaxName/api.WordSize

// Uint is the codec of uint64: the number.
type Uint struct{}

// Words returns the number of words.
func (Uint) Words() int {
	return 1
}

// Encode stores the word of v in to.
func (Uint) Encode(v uint64, to []uint64) bool {
	if len(to) != 1 {
		return false
	}
	to[0] = v
	return true
}

// Decode returns the number.
func (Uint) Decode(from []uint64) (uint64, bool) {
	if len(from) != 1 {
		return 0, false
	}
	return from[0], true
}

// Int is the codec of int64: the number modulo 2^64.
type Int struct{}

// Words returns the number of words.
func (Int) Words() int {
	return 1
}

// Encode stores the word of v in to.
func (Int) Encode(v int64, to []uint64) bool {
	return Uint{}.Encode(uint64(v), to)
}

// Decode returns the number.
func (Int) Decode(from []uint64) (int64, bool) {
	w, ok := Uint{}.Decode(from)
	return int64(w), ok
}

// Bool is the codec of bool: 0 or 1.
type Bool struct{}

// Words returns the number of words.
func (Bool) Words() int {
	return 1
}

// Encode stores the word of v in to.
func (Bool) Encode(v bool, to []uint64) bool {
	w := uint64(0)
	if v {
		w = 1
	}
	return Uint{}.Encode(w, to)
}

// Decode returns the value of the word.
func (Bool) Decode(from []uint64) (bool, bool) {
	w, ok := Uint{}.Decode(from)
	if !ok || w > 1 {
		return false, false
	}
	return w == 1, true
}

// Name is the codec of strings of at most api.MaxName bytes: the number of bytes, then the bytes, little-endian.
type Name struct{}

// Words returns the number of words.
func (Name) Words() int {
	return nameWords
}

// Encode stores the words of v in to.
func (Name) Encode(v string, to []uint64) bool {
	if len(to) != nameWords || len(v) > api.MaxName {
		return false
	}
	clear(to)
	to[0] = uint64(len(v))
	for i := range len(v) {
		to[1+i/api.WordSize] |= uint64(v[i]) << (8 * (i % api.WordSize))
	}
	return true
}

// Decode returns the string.
func (Name) Decode(from []uint64) (string, bool) {
	if len(from) != nameWords || from[0] > api.MaxName {
		return "", false
	}
	var p [api.MaxName]byte
	for i := range p {
		p[i] = byte(from[1+i/api.WordSize] >> (8 * (i % api.WordSize)))
	}
	n := int(from[0])
	for _, b := range p[n:] {
		if b != 0 {
			return "", false
		}
	}
	return string(p[:n]), true
}
