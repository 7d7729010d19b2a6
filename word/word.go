// Package word implements operations on 64-bit words: bit fields, alignment, packing of bytes, hashing and order-preserving encodings. See shared/doc/01-word.md.
package word

import (
	"math"
	"math/bits"

	"bedrock/api"
)

const (
	wordBits = 64
	signBit  = 1 << 63

	mixFirst  = 0xbf58476d1ce4e5b9
	mixSecond = 0x94d049bb133111eb

	hashStart = 0xcbf29ce484222325
	hashPrime = 0x100000001b3
)

// validField compares with a difference because shift+width can overflow.
func validField(shift, width int) bool {
	return shift >= 0 && width >= 1 && shift <= wordBits-width
}

// lowBits returns a word whose width lowest bits are set; width is 1 to 64.
func lowBits(width int) uint64 {
	return math.MaxUint64 >> (wordBits - width)
}

// Field returns the width bits of w that begin at bit shift, as a number. It returns 0 unless shift >= 0, width >= 1 and shift+width <= 64.
func Field(w uint64, shift, width int) uint64 {
	if !validField(shift, width) {
		return 0
	}
	return w >> shift & lowBits(width)
}

// SetField returns w with that field replaced by v modulo 2^width. It returns w for an invalid field.
func SetField(w uint64, shift, width int, v uint64) uint64 {
	if !validField(shift, width) {
		return w
	}
	mask := lowBits(width) << shift
	return w&^mask | v<<shift&mask
}

// AlignUp returns the smallest multiple of a that is at least off.
func AlignUp(off, a uint64) (uint64, api.Errno) {
	if bits.OnesCount64(a) != 1 {
		return 0, api.ErrArg
	}
	// 2^64 is a multiple of a, so this sum overflows exactly if the result does.
	sum, carry := bits.Add64(off, a-1, 0)
	if carry != 0 {
		return 0, api.ErrRange
	}
	return sum &^ (a - 1), api.OK
}

// Line returns the number of the line that contains the byte offset off.
func Line(off uint64) uint64 {
	return off / api.LineSize
}

// Span returns the first line and the number of lines that the n bytes from off on touch.
func Span(off, n uint64) (first, count uint64) {
	if n == 0 {
		return 0, 0
	}
	last, carry := bits.Add64(off, n-1, 0)
	if carry != 0 {
		last = math.MaxUint64
	}
	first = Line(off)
	return first, Line(last) - first + 1
}

// wordsFor returns n / 8, rounded up. It rounds up only the rest because n+7 can overflow.
func wordsFor(n int) int {
	return n/api.WordSize + (n%api.WordSize+api.WordSize-1)/api.WordSize
}

// Pack returns the bytes of p as little-endian words, padded with zero bytes.
func Pack(p []byte) []uint64 {
	ws := make([]uint64, wordsFor(len(p)))
	for i, b := range p {
		ws[i/api.WordSize] |= uint64(b) << byteShift(i)
	}
	return ws
}

// Unpack returns the n bytes that Pack made into ws.
func Unpack(ws []uint64, n int) ([]byte, api.Errno) {
	if n < 0 {
		return nil, api.ErrArg
	}
	if len(ws) != wordsFor(n) {
		return nil, api.ErrForm
	}
	if n%api.WordSize != 0 && ws[len(ws)-1]>>byteShift(n) != 0 {
		return nil, api.ErrForm
	}
	p := make([]byte, n)
	for i := range p {
		p[i] = byte(ws[i/api.WordSize] >> byteShift(i))
	}
	return p, api.OK
}

// byteShift returns where byte i of a sequence lies in its word.
func byteShift(i int) int {
	return i % api.WordSize * 8
}

// Ones returns the number of bits of w that are set.
func Ones(w uint64) int {
	return bits.OnesCount64(w)
}

// Lowest returns the index of the lowest set bit, or -1 if w is 0.
func Lowest(w uint64) int {
	if w == 0 {
		return -1
	}
	return bits.TrailingZeros64(w)
}

// Select returns the index of the set bit that has k set bits below it, or -1 if there is none.
func Select(w uint64, k int) int {
	if k < 0 || k >= Ones(w) {
		return -1
	}
	for range k {
		w &= w - 1
	}
	return Lowest(w)
}

// Mix returns the image of x under the finalizer of splitmix64, a bijection.
func Mix(x uint64) uint64 {
	x = (x ^ x>>30) * mixFirst
	x = (x ^ x>>27) * mixSecond
	return x ^ x>>31
}

// Hash returns the 64-bit FNV-1a hash of p.
func Hash(p []byte) uint64 {
	h := uint64(hashStart)
	for _, b := range p {
		h = (h ^ uint64(b)) * hashPrime
	}
	return h
}

// Order maps signed integers to unsigned ones so that the order is preserved.
func Order(x int64) uint64 {
	return uint64(x) + signBit
}

// Unorder is the inverse of Order.
func Unorder(u uint64) int64 {
	return int64(u - signBit)
}
