package record_test

import (
	"math"
	"reflect"
	"slices"
	"testing"

	"bedrock/api"
	"bedrock/record"
)

// The codecs that the chapter lists, by their types.
var (
	_ record.Codec[uint64]                    = record.Uint{}
	_ record.Codec[int64]                     = record.Int{}
	_ record.Codec[bool]                      = record.Bool{}
	_ record.Codec[string]                    = record.Name{}
	_ record.Codec[record.Both[bool, string]] = record.Pair[bool, string]{}
	_ record.Codec[[]int64]                   = record.Array[int64]{}
	_ record.Codec[*[]int64]                  = record.Option[[]int64]{}
)

const (
	top = 1 << 63
	all = math.MaxUint64
)

// sequence yields a fixed irregular sequence of numbers.
type sequence uint64

func (s *sequence) next() uint64 {
	x := *s
	x ^= x << 13
	x ^= x >> 7
	x ^= x << 17
	*s = x
	return uint64(x) * 0x2545f4914f6cdd1d
}

func (s *sequence) below(n int) int {
	return int(s.next() >> 33 % uint64(n))
}

// number returns a number that is often at a border.
func (s *sequence) number() uint64 {
	borders := []uint64{0, 1, 2, 255, 1 << 32, math.MaxInt64, top, all - 1, all}
	if n := s.below(2 * len(borders)); n < len(borders) {
		return borders[n]
	}
	return s.next()
}

// name returns a string of 0 to 16 bytes.
func (s *sequence) name() string {
	p := make([]byte, s.below(17))
	for i := range p {
		p[i] = byte(s.next() >> 40)
	}
	return string(p)
}

// filled returns n words that no codec wrote.
func filled(n int) []uint64 {
	ws := make([]uint64, n)
	for i := range ws {
		ws[i] = 0xabcdef0123456789 + uint64(i)
	}
	return ws
}

// encodes checks that the words of v are want, and that v is decoded from them.
func encodes[T any](t *testing.T, c record.Codec[T], v T, want ...uint64) {
	t.Helper()
	if c.Words() != len(want) {
		t.Fatalf("%T has %d words, want %d", c, c.Words(), len(want))
	}
	to := filled(len(want) + 1)
	if !c.Encode(v, to[:len(want)]) || !slices.Equal(to[:len(want)], want) {
		t.Fatalf("%T encodes %v as %x, want %x", c, v, to[:len(want)], want)
	}
	if to[len(want)] != filled(len(want) + 1)[len(want)] {
		t.Fatalf("%T writes behind the words of %v", c, v)
	}
	from := slices.Clone(want)
	got, ok := c.Decode(from)
	if !ok || !reflect.DeepEqual(got, v) || !slices.Equal(from, want) {
		t.Fatalf("%T decodes %x as %v, %v, want %v", c, want, got, ok, v)
	}
}

// refusesValue checks that v cannot be encoded into n words.
func refusesValue[T any](t *testing.T, c record.Codec[T], v T, n int) {
	t.Helper()
	to := filled(n)
	if c.Encode(v, to) {
		t.Fatalf("%T encodes %v into %d words as %x", c, v, n, to)
	}
	if !slices.Equal(to, filled(n)) {
		t.Fatalf("%T cannot encode %v, but writes %x", c, v, to)
	}
}

// refusesWords checks that nothing is decoded from the words.
func refusesWords[T any](t *testing.T, c record.Codec[T], from ...uint64) {
	t.Helper()
	var none T
	v, ok := c.Decode(from)
	if ok || !reflect.DeepEqual(v, none) {
		t.Fatalf("%T decodes %x as %v, %v", c, from, v, ok)
	}
}

// refusesSizes checks that c, which is valid, takes no other number of words than its own, even if v is a value of it.
func refusesSizes[T any](t *testing.T, c record.Codec[T], v T) {
	t.Helper()
	size := c.Words()
	words := make([]uint64, size)
	if !c.Encode(v, words) {
		t.Fatalf("%T does not encode %v", c, v)
	}
	for _, n := range []int{0, 1, size - 1, size + 1, 2 * size, 4097} {
		if n == size {
			continue
		}
		refusesValue(t, c, v, n)
		refusesWords(t, c, append(slices.Clone(words), make([]uint64, n)...)[:n]...)
	}
}

// refusesAll checks that c, which is invalid, has no words, encodes nothing and decodes nothing.
func refusesAll[T any](t *testing.T, c record.Codec[T], v T) {
	t.Helper()
	if c.Words() != 0 {
		t.Fatalf("%#v has %d words", c, c.Words())
	}
	for _, n := range []int{0, 1, 2, 3, 4, 4096, 4097, 8192} {
		refusesValue(t, c, v, n)
		refusesWords(t, c, make([]uint64, n)...)
	}
}

// The chapter's examples.
func TestExamples(t *testing.T) {
	array := record.Array[int64]{N: 2, Of: record.Int{}}
	encodes(t, array, []int64{-1}, 1, 18446744073709551615, 0)
	refusesWords(t, array, 1, 5, 7)
	encodes(t, record.Name{}, "ab", 2, 25185, 0)
}

// P11.1.
func TestUint(t *testing.T) {
	for _, v := range []uint64{0, 1, 2, 255, 1 << 31, 1 << 32, math.MaxInt64, top, all - 1, all} {
		encodes(t, record.Uint{}, v, v)
		refusesSizes(t, record.Uint{}, v)
	}
}

// P11.1.
func TestInt(t *testing.T) {
	values := map[int64]uint64{
		0: 0, 1: 1, 2: 2, -1: all, -2: all - 1, 1 << 40: 1 << 40, -1 << 40: all - 1<<40 + 1,
		math.MaxInt64: math.MaxInt64, math.MinInt64: top, math.MinInt64 + 1: top + 1,
	}
	for v, w := range values {
		encodes(t, record.Int{}, v, w)
		refusesSizes(t, record.Int{}, v)
	}
}

// P11.1.
func TestBool(t *testing.T) {
	encodes(t, record.Bool{}, false, 0)
	encodes(t, record.Bool{}, true, 1)
	refusesSizes(t, record.Bool{}, false)
	refusesSizes(t, record.Bool{}, true)
	for _, w := range []uint64{2, 3, 256, 257, 1 << 32, 1<<32 + 1, top, top + 1, all} {
		refusesWords(t, record.Bool{}, w)
	}
}

// nameWords returns the words of a name as the chapter describes them.
func nameWords(s string) []uint64 {
	ws := []uint64{uint64(len(s)), 0, 0}
	for i := len(s) - 1; i >= 0; i-- {
		ws[1+i/8] = ws[1+i/8]*256 + uint64(s[i])
	}
	return ws
}

// P11.1.
func TestName(t *testing.T) {
	encodes(t, record.Name{}, "", 0, 0, 0)
	encodes(t, record.Name{}, "\x00", 1, 0, 0)
	encodes(t, record.Name{}, "a\x00b", 3, 0x620061, 0)
	encodes(t, record.Name{}, "12345678", 8, 0x3837363534333231, 0)
	encodes(t, record.Name{}, "123456789", 9, 0x3837363534333231, 0x39)
	encodes(t, record.Name{}, "\xff\xfe\x80 not UTF-8", nameWords("\xff\xfe\x80 not UTF-8")...)
	s := sequence(3)
	for range 2000 {
		name := s.name()
		encodes(t, record.Name{}, name, nameWords(name)...)
	}
	for _, name := range []string{"", "a", "abcdefgh", "abcdefghijklmnop", "\x00\x00", "\xff\xff\xff\xff\xff\xff\xff\xff\xff\xff\xff\xff\xff\xff\xff\xff"} {
		encodes(t, record.Name{}, name, nameWords(name)...)
		refusesSizes(t, record.Name{}, name)
	}
}

// P11.1: what is no name.
func TestNotAName(t *testing.T) {
	for _, n := range []int{17, 18, 24, 25, 100, 256, 272, 5000} {
		refusesValue(t, record.Name{}, string(make([]byte, n)), 3)
		refusesWords(t, record.Name{}, uint64(n), 0, 0)
	}
	for _, n := range []uint64{1 << 16, 1 << 31, 1 << 32, 1<<32 + 1, top, top + 2, all} {
		refusesWords(t, record.Name{}, n, 0, 0)
	}
	for n := range 16 {
		for bit := 8 * n; bit < 128; bit++ {
			ws := nameWords("abcdefghijklmnop"[:n])
			ws[1+bit/64] |= 1 << (bit % 64)
			refusesWords(t, record.Name{}, ws...)
		}
	}
}

// P11.1: the words of a name that are there before are overwritten also where it has no bytes.
func TestNameOverAnotherOne(t *testing.T) {
	to := nameWords("abcdefghijklmnop")
	if !(record.Name{}).Encode("x", to) || !slices.Equal(to, []uint64{1, 'x', 0}) {
		t.Error(to)
	}
}

// P11.3: one way for each value, in all words of a few numbers.
func TestOneWay(t *testing.T) {
	small := []uint64{0, 1, 2, 3, 256, all}
	if n := countValues(t, record.Uint{}, small); n != 6 {
		t.Error("Uint", n)
	}
	if n := countValues(t, record.Int{}, small); n != 6 {
		t.Error("Int", n)
	}
	if n := countValues(t, record.Bool{}, small); n != 2 {
		t.Error("Bool", n)
	}
	// Of these words only 0 is a name's without bytes; 0, 1, 2 and 3 are those of one byte, and 256 of two and of three, too.
	if n := countValues(t, record.Name{}, small); n != 1+4+5+5 {
		t.Error("Name", n)
	}
	if n := countValues(t, record.Pair[bool, int64]{First: record.Bool{}, Second: record.Int{}}, small); n != 2*6 {
		t.Error("Pair", n)
	}
	array := record.Array[bool]{N: 3, Of: record.Bool{}}
	if n := countValues(t, array, small); n != 1+2+4+8 {
		t.Error("Array", n)
	}
	if n := countValues(t, record.Array[uint64]{N: 3, Of: record.Uint{}}, small); n != 1+6+36+216 {
		t.Error("Array of numbers", n)
	}
	option := record.Option[[]bool]{Of: array}
	if n := countValues(t, option, small); n != 1+15 {
		t.Error("Option", n)
	}
	if n := countValues(t, record.Array[*bool]{N: 2, Of: record.Option[bool]{Of: record.Bool{}}}, small); n != 1+3+9 {
		t.Error("Array of options", n)
	}
	if n := countValues(t, record.Option[*bool]{Of: record.Option[bool]{Of: record.Bool{}}}, small); n != 1+3 {
		t.Error("Option of an option", n)
	}
}

// countValues returns from how many lists of the given words c decodes a value, and checks that these are the words of the value.
func countValues[T any](t *testing.T, c record.Codec[T], words []uint64) int {
	t.Helper()
	n := 0
	size := c.Words()
	digits := make([]int, size)
	for {
		from := make([]uint64, size)
		for i, d := range digits {
			from[i] = words[d]
		}
		if v, ok := c.Decode(from); ok {
			n++
			encodes(t, c, v, from...)
		} else {
			refusesWords(t, c, from...)
		}
		at := 0
		for at < size && digits[at] == len(words)-1 {
			digits[at] = 0
			at++
		}
		if at == size {
			return n
		}
		digits[at]++
	}
}

// P11.5.
func TestSealAndOpen(t *testing.T) {
	s := sequence(7)
	for n := range 40 {
		ws := make([]uint64, n, n+3)
		for i := range ws {
			ws[i] = s.number()
		}
		before := slices.Clone(ws)
		sealed := record.Seal(ws)
		if len(sealed) != n+1 || !slices.Equal(sealed[:n], ws) || sealed[n] != uint64(checksum(ws)) {
			t.Fatalf("Seal(%x) = %x", ws, sealed)
		}
		if behind := ws[:n+1][n]; behind != 0 {
			t.Fatal("Seal has written behind its argument")
		}
		opened, err := record.Open(sealed)
		if err != api.OK || !slices.Equal(opened, ws) {
			t.Fatalf("Open(%x) = %x, %v", sealed, opened, err)
		}
		clear(opened[:cap(opened)])
		if !slices.Equal(sealed[:n], before) {
			t.Fatal("Open's result shares memory with its argument")
		}
		clear(sealed)
		if !slices.Equal(ws, before) {
			t.Fatal("Seal's result shares memory with its argument")
		}
	}
}

// checksum returns the CRC-32C of the words' bytes, bit by bit.
func checksum(ws []uint64) uint32 {
	register := uint32(all & 0xffffffff)
	for _, w := range ws {
		for i := range 64 {
			bit := register&1 ^ uint32(w>>i&1)
			register = register>>1 ^ bit*0x82f63b78
		}
	}
	return ^register
}

// P11.5: a changed bit is found, and so is a lost or an added word.
func TestOpenOfDamage(t *testing.T) {
	refuses := func(ws []uint64) {
		t.Helper()
		if got, err := record.Open(ws); err != api.ErrSum || len(got) != 0 {
			t.Fatalf("Open(%x) = %x, %v", ws, got, err)
		}
	}
	refuses(nil)
	refuses([]uint64{})
	for _, w := range []uint64{1, 1 << 32, top, all, all >> 32} {
		refuses([]uint64{w})
	}
	for _, ws := range [][]uint64{{}, {0}, {5}, {1, 2}, {0, 0, 0}, {all, 7, top, 9}} {
		sealed := record.Seal(ws)
		for bit := range 64 * len(sealed) {
			damaged := slices.Clone(sealed)
			damaged[bit/64] ^= 1 << (bit % 64)
			refuses(damaged)
		}
		refuses(append(slices.Clone(sealed), 1))
		if len(ws) > 1 {
			refuses(ws)
			refuses(sealed[1:])
		}
	}
	if got := record.Seal(nil); !slices.Equal(got, []uint64{0}) {
		t.Error("Seal of nothing", got)
	}
	if got, err := record.Open([]uint64{0}); err != api.OK || len(got) != 0 {
		t.Error("Open of nothing", got, err)
	}
}

// P11.5: a published checksum.
func TestSealOfAPublishedSum(t *testing.T) {
	if got := record.Seal(make([]uint64, 4)); got[4] != 0x8a9136aa {
		t.Errorf("%x", got)
	}
}
