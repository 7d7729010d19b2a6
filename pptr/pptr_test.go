package pptr_test

import (
	"math"
	"testing"

	"bedrock/api"
	"bedrock/pptr"
)

// must returns the pointer with these parts.
func must(t *testing.T, off uint64, gen uint16, kind uint8) pptr.Ptr {
	t.Helper()
	p, err := pptr.Make(off, gen, kind)
	if err != api.OK {
		t.Fatalf("Make(%d, %d, %d): %v", off, gen, kind, err)
	}
	return p
}

// sequence yields a fixed irregular sequence of numbers.
type sequence uint64

func (s *sequence) next() uint64 {
	x := *s
	x ^= x << 13
	x ^= x >> 7
	x ^= x << 17
	*s = x
	return uint64(x) * 0x2545f4914f6cdd1d
}

const lastOff = 8 * math.MaxUint32

// The offsets, generations and kinds at the borders, and whether a pointer has them.
func offs() map[uint64]api.Errno {
	return map[uint64]api.Errno{
		0: api.ErrArg, 1: api.ErrArg, 4: api.ErrArg, 7: api.ErrArg, 8: api.OK, 9: api.ErrArg, 16: api.OK, 4096: api.OK,
		lastOff - 8: api.OK, lastOff - 1: api.ErrArg, lastOff: api.OK, lastOff + 4: api.ErrArg,
		8 << 32: api.ErrRange, 8<<32 + 1: api.ErrArg, 8<<32 + 8: api.ErrRange, 8 << 48: api.ErrRange,
		1 << 63: api.ErrRange, math.MaxUint64 - 7: api.ErrRange, math.MaxUint64: api.ErrArg,
	}
}

func gens() map[uint16]api.Errno {
	return map[uint16]api.Errno{0: api.ErrArg, 1: api.OK, 2: api.OK, 255: api.OK, 256: api.OK, 32768: api.OK, 65535: api.OK}
}

func kinds() map[uint8]api.Errno {
	return map[uint8]api.Errno{0: api.ErrArg, 1: api.OK, 64: api.OK, 127: api.OK, 128: api.ErrArg, 129: api.ErrArg, 255: api.ErrArg}
}

// P9.1.
func TestMake(t *testing.T) {
	for off, offErr := range offs() {
		for gen, genErr := range gens() {
			for kind, kindErr := range kinds() {
				want := offErr
				if genErr != api.OK || kindErr != api.OK {
					want = api.ErrArg
				}
				p, err := pptr.Make(off, gen, kind)
				if err != want {
					t.Fatalf("Make(%d, %d, %d): %v, want %v", off, gen, kind, err, want)
				}
				if want != api.OK {
					if p != 0 {
						t.Fatalf("Make(%d, %d, %d) is %x with an error", off, gen, kind, uint64(p))
					}
					continue
				}
				if uint64(p) != off/8+uint64(gen)<<32+uint64(kind)<<48 {
					t.Fatalf("Make(%d, %d, %d) is %x", off, gen, kind, uint64(p))
				}
				if p.Off() != off || p.Gen() != gen || p.Kind() != kind || p.Nil() {
					t.Fatalf("%x has the parts %d, %d, %d, %v", uint64(p), p.Off(), p.Gen(), p.Kind(), p.Nil())
				}
			}
		}
	}
}

func TestPartsOfAnyWord(t *testing.T) {
	s := sequence(5)
	words := []uint64{0, 1, 1 << 31, 1 << 32, 1 << 47, 1 << 48, 1 << 55, 1 << 56, 1 << 63, math.MaxUint64}
	for range 1000 {
		words = append(words, s.next())
	}
	for _, w := range words {
		p := pptr.Ptr(w)
		if p.Off() != w%(1<<32)*8 || uint64(p.Gen()) != w>>32%(1<<16) || uint64(p.Kind()) != w>>48%(1<<8) {
			t.Errorf("%x has the parts %d, %d, %d", w, p.Off(), p.Gen(), p.Kind())
		}
		if p.Nil() != (w == 0) {
			t.Errorf("Nil of %x is %v", w, p.Nil())
		}
	}
}

// malformed returns words that are no pointers, each for one reason only.
func malformed() []pptr.Ptr {
	const off, gen, kind = 10, 2 << 32, 3 << 48
	l := []pptr.Ptr{gen + kind, off + kind, off + gen, off + gen + 128<<48, off + gen + 255<<48}
	for bit := 55; bit < 64; bit++ {
		l = append(l, off+gen+kind+1<<bit)
	}
	return l
}

func TestValid(t *testing.T) {
	for _, off := range []uint64{8, 80, 4096, lastOff} {
		p := must(t, off, 2, 3)
		for size, want := range map[uint64]bool{
			0: false, off - 8: false, off - 1: false, off: false, off + 1: true, off + 8: true, math.MaxUint64: true,
		} {
			if p.Valid(size) != want {
				t.Errorf("Valid(%d) of the offset %d is %v", size, off, !want)
			}
		}
	}
	if pptr.Ptr(0).Valid(math.MaxUint64) {
		t.Error("nil is valid")
	}
	for _, p := range malformed() {
		if p.Valid(math.MaxUint64) {
			t.Errorf("%x is valid", uint64(p))
		}
	}
}

func TestValidOfTheBorders(t *testing.T) {
	for gen, genErr := range gens() {
		for kind, kindErr := range kinds() {
			p := pptr.Ptr(1 + uint64(gen)<<32 + uint64(kind)<<48)
			if p.Valid(9) != (genErr == api.OK && kindErr == api.OK) || p.Valid(8) {
				t.Errorf("Valid of the generation %d and the kind %d is %v", gen, kind, p.Valid(9))
			}
		}
	}
}

// P9.2.
func TestAt(t *testing.T) {
	words := []int{math.MinInt, -api.MaxBlock, -1, 0, 1, 2, 30, api.MaxBlock - 1, api.MaxBlock, api.MaxBlock + 1, math.MaxInt}
	l := append(malformed(), 0, must(t, 8, 1, 1), must(t, 4096, 3, 64), must(t, lastOff, 65535, 127))
	for _, p := range l {
		for _, word := range words {
			want := uint64(0)
			if p != 0 && 0 <= word && word < 60 {
				want = uint64(p)%(1<<32)*8 + 8*uint64(word)
			}
			if p.At(word) != want {
				t.Errorf("At(%d) of %x is %d, want %d", word, uint64(p), p.At(word), want)
			}
		}
	}
}

func TestRelocate(t *testing.T) {
	all := []uint64{8, 16, 4096, lastOff - 8, lastOff}
	for _, from := range all {
		for _, to := range all {
			p := must(t, from, 3, 64)
			if q, err := p.Relocate(int64(to) - int64(from)); err != api.OK || q != must(t, to, 3, 64) {
				t.Errorf("%d relocated to %d is %s, %v", from, to, q.Text(), err)
			}
		}
		for delta, want := range map[int64]api.Errno{
			-int64(from): api.ErrRange, -int64(from) - 8: api.ErrRange, -int64(from) - 4: api.ErrArg, 1 - int64(from): api.ErrArg,
			8<<32 - int64(from): api.ErrRange, 8<<32 + 8 - int64(from): api.ErrRange, lastOff + 4 - int64(from): api.ErrArg,
			math.MinInt64: api.ErrRange, math.MinInt64 + 1: api.ErrArg, math.MaxInt64: api.ErrArg, math.MaxInt64 - 7: api.ErrRange,
			1 << 38: api.ErrRange, -1 << 38: api.ErrRange, 1: api.ErrArg, -1: api.ErrArg, 4: api.ErrArg, -4: api.ErrArg, 7: api.ErrArg,
		} {
			if q, err := must(t, from, 3, 64).Relocate(delta); q != 0 || err != want {
				t.Errorf("%d relocated by %d is %x, %v, want %v", from, delta, uint64(q), err, want)
			}
		}
	}
}

func TestRelocateKeepsTheOtherParts(t *testing.T) {
	for _, gen := range []uint16{1, 255, 65535} {
		for _, kind := range []uint8{1, 64, 127} {
			q, err := must(t, 80, gen, kind).Relocate(-72)
			if err != api.OK || q != must(t, 8, gen, kind) {
				t.Errorf("generation %d, kind %d: %x, %v", gen, kind, uint64(q), err)
			}
		}
	}
}

func TestRelocateNoPointer(t *testing.T) {
	for _, p := range append(malformed(), 0) {
		for _, delta := range []int64{0, 8, -8, 4, math.MaxInt64 - 7, math.MinInt64} {
			if q, err := p.Relocate(delta); q != 0 || err != api.ErrArg {
				t.Errorf("%x relocated by %d is %x, %v", uint64(p), delta, uint64(q), err)
			}
		}
	}
}

func TestNextGen(t *testing.T) {
	for g := range math.MaxUint16 {
		if n, ok := pptr.NextGen(uint16(g)); int(n) != g+1 || !ok {
			t.Fatalf("the generation after %d is %d, %v", g, n, ok)
		}
	}
	if n, ok := pptr.NextGen(65535); n != 0 || ok {
		t.Errorf("the generation after 65535 is %d, %v", n, ok)
	}
}

// The chapter's examples.
func TestExamples(t *testing.T) {
	p := must(t, 4096, 3, 64)
	if p.Text() != "64:4096#3" || p.At(2) != 4112 {
		t.Error(p.Text(), p.At(2))
	}
	if q, err := pptr.Make(12, 1, 1); q != 0 || err != api.ErrArg {
		t.Error(q, err)
	}
	if q, err := p.Relocate(-4096); q != 0 || err != api.ErrRange {
		t.Error(q, err)
	}
}
