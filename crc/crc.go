// Package crc computes CRC-32C checksums. See shared/doc/02-crc.md.
package crc

// The polynomial of degree 32 is a register without its highest term; the highest bit of a register is the coefficient of x^0.
const (
	polynomial = 0x82f63b78
	one        = 1 << 31
	zeroByte   = one >> 8
)

// lowNibble and highNibble contain what eight bit steps make of a register of which only the four lowest bits, or only the four bits above these, are set. A table for whole bytes is the exclusive or of the two.
var lowNibble = [16]uint32{
	0x00000000, 0xf26b8303, 0xe13b70f7, 0x1350f3f4,
	0xc79a971f, 0x35f1141c, 0x26a1e7e8, 0xd4ca64eb,
	0x8ad958cf, 0x78b2dbcc, 0x6be22838, 0x9989ab3b,
	0x4d43cfd0, 0xbf284cd3, 0xac78bf27, 0x5e133c24,
}

var highNibble = [16]uint32{
	0x00000000, 0x105ec76f, 0x20bd8ede, 0x30e349b1,
	0x417b1dbc, 0x5125dad3, 0x61c69362, 0x7198540d,
	0x82f63b78, 0x92a8fc17, 0xa24bb5a6, 0xb21572c9,
	0xc38d26c4, 0xd3d3e1ab, 0xe330a81a, 0xf36e6f75,
}

// shiftByte returns the register after one more byte.
func shiftByte(register uint32, b byte) uint32 {
	register ^= uint32(b)
	return register>>8 ^ lowNibble[register&15] ^ highNibble[register>>4&15]
}

// Sum returns the CRC-32C of p.
func Sum(p []byte) uint32 {
	return Update(0, p)
}

// Update returns the CRC-32C of the bytes whose CRC-32C is crc, followed by p.
func Update(crc uint32, p []byte) uint32 {
	register := ^crc
	for _, b := range p {
		register = shiftByte(register, b)
	}
	return ^register
}

// Words returns the CRC-32C of the little-endian bytes of ws.
func Words(ws []uint64) uint32 {
	register := ^uint32(0)
	for _, w := range ws {
		for range 8 {
			register = shiftByte(register, byte(w))
			w >>= 8
		}
	}
	return ^register
}

// multiply returns the product of two registers as polynomials, modulo the polynomial of the checksum.
func multiply(a, b uint32) uint32 {
	product := uint32(0)
	for ; a != 0; a <<= 1 {
		if a&one != 0 {
			product ^= b
		}
		b = b>>1 ^ polynomial*(b&1)
	}
	return product
}

// Combine returns the CRC-32C of x followed by y, given a of x, b of y and the length n of y.
func Combine(a, b uint32, n int) uint32 {
	// A zero byte multiplies the register by a constant, so n of them take as many products as n has bits.
	power := uint32(zeroByte)
	for ; n > 0; n >>= 1 {
		if n&1 != 0 {
			a = multiply(a, power)
		}
		power = multiply(power, power)
	}
	return a ^ b
}

// Burst returns a copy of p in which up to 32 consecutive bits are inverted, beginning with the given bit.
func Burst(p []byte, bit int, pattern uint32) []byte {
	inverted := make([]byte, len(p))
	copy(inverted, p)
	for j := range 32 {
		// The sum can overflow only from the highest numbers to negative ones, which p has no bits for either.
		k := bit + j
		if pattern>>j&1 != 0 && k >= 0 && k/8 < len(p) {
			inverted[k/8] ^= 1 << (k % 8)
		}
	}
	return inverted
}
