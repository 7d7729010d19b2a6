package crc_test

import (
	"bytes"
	"math"
	"slices"
	"testing"

	"bedrock/crc"
)

// shiftBits returns the register after steps single bits, as the chapter describes it.
func shiftBits(register uint32, steps int) uint32 {
	for range steps {
		out := register % 2
		register /= 2
		if out == 1 {
			register ^= 0x82f63b78
		}
	}
	return register
}

func slowUpdate(sum uint32, p []byte) uint32 {
	register := sum ^ 0xffffffff
	for _, b := range p {
		register = shiftBits(register^uint32(b), 8)
	}
	return register ^ 0xffffffff
}

func slowSum(p []byte) uint32 {
	return slowUpdate(0, p)
}

// irregular returns n bytes of a fixed irregular sequence that the seed selects.
func irregular(seed uint32, n int) []byte {
	p := make([]byte, n)
	x := seed*2 + 1
	for i := range p {
		x ^= x << 13
		x ^= x >> 17
		x ^= x << 5
		p[i] = byte(x >> 11)
	}
	return p
}

func sampleSums() []uint32 {
	return []uint32{0, 1, 2, 0x80, 0x100, 0x8000, 0x80000000, 0x7fffffff, 0xffffffff, 0xfffffffe, 0x82f63b78, 0x12345678, 0xe3069283, 0xdeadbeef}
}

func TestSumOfPublishedInputs(t *testing.T) {
	rising := make([]byte, 32)
	falling := make([]byte, 32)
	for i := range rising {
		rising[i] = byte(i)
		falling[i] = byte(31 - i)
	}
	cases := []struct {
		p    []byte
		want uint32
	}{
		{nil, 0},
		{[]byte{}, 0},
		{[]byte("123456789"), 0xe3069283},
		{make([]byte, 32), 0x8a9136aa},
		{bytes.Repeat([]byte{0xff}, 32), 0x62a8ab43},
		{rising, 0x46dd794e},
		{falling, 0x113fdb5c},
	}
	for _, c := range cases {
		if got := crc.Sum(c.p); got != c.want {
			t.Errorf("Sum(%x) = %x, want %x", c.p, got, c.want)
		}
	}
}

func TestSumOfEveryByte(t *testing.T) {
	for b := range 256 {
		for _, p := range [][]byte{{byte(b)}, {0, byte(b)}, {byte(b), 0x5a, 0xff}} {
			if got, want := crc.Sum(p), slowSum(p); got != want {
				t.Errorf("Sum(%x) = %x, want %x", p, got, want)
			}
		}
	}
}

func TestSumOfEveryLength(t *testing.T) {
	for n := range 300 {
		p := irregular(uint32(n), n)
		if got, want := crc.Sum(p), slowSum(p); got != want {
			t.Errorf("Sum of %d bytes = %x, want %x", n, got, want)
		}
		if got, want := crc.Sum(make([]byte, n)), slowSum(make([]byte, n)); got != want {
			t.Errorf("Sum of %d zero bytes = %x, want %x", n, got, want)
		}
	}
	p := irregular(7, 300000)
	if got, want := crc.Sum(p), slowSum(p); got != want {
		t.Errorf("Sum of %d bytes = %x, want %x", len(p), got, want)
	}
}

func TestUpdateOfEverySplit(t *testing.T) {
	for n := range 70 {
		p := irregular(uint32(n), n)
		for i := range n + 1 {
			if got, want := crc.Update(crc.Sum(p[:i]), p[i:]), slowSum(p); got != want {
				t.Errorf("Update of %d bytes after %d = %x, want %x", n-i, i, got, want)
			}
		}
	}
	if got := crc.Update(crc.Sum([]byte("1234")), []byte("56789")); got != 0xe3069283 {
		t.Errorf("Update(Sum(1234), 56789) = %x", got)
	}
}

func TestUpdateInManyParts(t *testing.T) {
	p := irregular(3, 500)
	sum := crc.Sum(nil)
	for i := range p {
		sum = crc.Update(sum, p[i:i+1])
		sum = crc.Update(sum, nil)
	}
	if want := slowSum(p); sum != want {
		t.Errorf("byte by byte: %x, want %x", sum, want)
	}
}

func TestUpdateOfEverySum(t *testing.T) {
	for _, sum := range sampleSums() {
		for _, n := range []int{0, 1, 2, 3, 4, 5, 7, 8, 9, 31, 64} {
			p := irregular(sum, n)
			if got, want := crc.Update(sum, p), slowUpdate(sum, p); got != want {
				t.Errorf("Update(%x, %x) = %x, want %x", sum, p, got, want)
			}
		}
	}
}

func littleEndian(ws []uint64) []byte {
	var p []byte
	for _, w := range ws {
		for i := range 8 {
			p = append(p, byte(w>>(8*i)))
		}
	}
	return p
}

func TestWords(t *testing.T) {
	if got := crc.Words(nil); got != 0 {
		t.Errorf("Words(nil) = %x", got)
	}
	if got := crc.Words([]uint64{}); got != 0 {
		t.Errorf("Words() = %x", got)
	}
	if got, want := crc.Words([]uint64{0x3837363534333231}), crc.Sum([]byte("12345678")); got != want {
		t.Errorf("Words = %x, want %x", got, want)
	}
	if got := crc.Words(make([]uint64, 4)); got != 0x8a9136aa {
		t.Errorf("Words of four zero words = %x", got)
	}
	var ws []uint64
	w := uint64(0x0123456789abcdef)
	for range 80 {
		if got, want := crc.Words(ws), slowSum(littleEndian(ws)); got != want {
			t.Errorf("Words of %d words = %x, want %x", len(ws), got, want)
		}
		ws = append(ws, w)
		w = w*0x9e3779b97f4a7c15 + 1
	}
}

func TestWordsOfSingleBits(t *testing.T) {
	for i := range 64 {
		ws := []uint64{1 << i}
		if got, want := crc.Words(ws), slowSum(littleEndian(ws)); got != want {
			t.Errorf("Words of bit %d = %x, want %x", i, got, want)
		}
	}
}

func TestCombineOfEverySplit(t *testing.T) {
	for n := range 70 {
		p := irregular(uint32(n), n)
		for i := range n + 1 {
			if got, want := crc.Combine(crc.Sum(p[:i]), crc.Sum(p[i:]), n-i), slowSum(p); got != want {
				t.Errorf("Combine of %d and %d bytes = %x, want %x", i, n-i, got, want)
			}
		}
	}
	if got := crc.Combine(crc.Sum([]byte("1234")), crc.Sum([]byte("56789")), 5); got != 0xe3069283 {
		t.Errorf("Combine of 1234 and 56789 = %x", got)
	}
}

func TestCombineOfLongParts(t *testing.T) {
	for _, n := range []int{255, 256, 257, 1000, 4095, 4096, 65535, 65536, 100003} {
		x, y := irregular(1, 11), irregular(2, n)
		want := slowSum(append(bytes.Clone(x), y...))
		if got := crc.Combine(slowSum(x), slowSum(y), n); got != want {
			t.Errorf("Combine with %d bytes = %x, want %x", n, got, want)
		}
		want = slowSum(append(bytes.Clone(y), x...))
		if got := crc.Combine(slowSum(y), slowSum(x), 11); got != want {
			t.Errorf("Combine after %d bytes = %x, want %x", n, got, want)
		}
	}
}

func TestCombineOfEverySum(t *testing.T) {
	for _, a := range sampleSums() {
		register := a
		for n := range 140 {
			for _, b := range []uint32{0, 1, 0xffffffff, 0x8badf00d} {
				if got, want := crc.Combine(a, b, n), register^b; got != want {
					t.Errorf("Combine(%x, %x, %d) = %x, want %x", a, b, n, got, want)
				}
			}
			register = shiftBits(register, 8)
		}
	}
}

func TestCombineOfEveryBit(t *testing.T) {
	for i := range 32 {
		a := uint32(1) << i
		for _, n := range []int{1, 2, 3, 4, 5, 8, 16, 33} {
			if got, want := crc.Combine(a, 0, n), shiftBits(a, 8*n); got != want {
				t.Errorf("Combine(%x, 0, %d) = %x, want %x", a, n, got, want)
			}
		}
	}
}

func TestCombineWithNegativeLength(t *testing.T) {
	for _, n := range []int{-1, -2, -8, -1 << 31, -1 << 32, math.MinInt + 1, math.MinInt} {
		if got := crc.Combine(5, 6, n); got != 3 {
			t.Errorf("Combine(5, 6, %d) = %x", n, got)
		}
		if got := crc.Combine(0xdeadbeef, 0x12345678, n); got != 0xdeadbeef^0x12345678 {
			t.Errorf("Combine(deadbeef, 12345678, %d) = %x", n, got)
		}
	}
}

// The polynomial is x + 1 times a primitive one of degree 31, so 2^31 - 1 steps, of bits or of bytes, change no register.
func TestCombineWithHugeLength(t *testing.T) {
	const period = 1<<31 - 1
	cases := []struct{ n, same int }{
		{period, 0},
		{period + 1, 1},
		{2*period + 3, 3},
		{1 << 32, 2},
		{1 << 62, 1},
		{math.MaxInt, 1},
		{math.MaxInt - 1, 0},
	}
	for _, a := range sampleSums() {
		for _, c := range cases {
			if got, want := crc.Combine(a, 0x55aa, c.n), shiftBits(a, 8*c.same)^0x55aa; got != want {
				t.Errorf("Combine(%x, 55aa, %d) = %x, want %x", a, c.n, got, want)
			}
		}
		if got := crc.Combine(crc.Combine(a, 0, period-5), 0, 5); got != a {
			t.Errorf("Combine(%x, 0, %d) and 5 bytes more: %x", a, period-5, got)
		}
	}
}

func TestCombineOfThreeParts(t *testing.T) {
	x, y, z := crc.Sum(irregular(1, 20)), crc.Sum(irregular(2, 33)), crc.Sum(irregular(3, 7))
	left := crc.Combine(crc.Combine(x, y, 33), z, 7)
	right := crc.Combine(x, crc.Combine(y, z, 7), 40)
	want := slowSum(slices.Concat(irregular(1, 20), irregular(2, 33), irregular(3, 7)))
	if left != want || right != want {
		t.Errorf("Combine = %x and %x, want %x", left, right, want)
	}
}

// slowBurst goes through the bits of p and asks for each whether the pattern covers it.
func slowBurst(p []byte, bit int, pattern uint32) []byte {
	q := bytes.Clone(p)
	for k := range 8 * len(p) {
		// k >= bit and k - bit < 32, without an overflow.
		if k >= bit && k-31 <= bit && pattern>>(k-bit)&1 == 1 {
			q[k/8] ^= 1 << (k % 8)
		}
	}
	return q
}

func samplePatterns() []uint32 {
	patterns := []uint32{0, 3, 5, 7, 0x80000001, 0xffffffff, 0x7fffffff, 0xaaaaaaaa, 0x12345678, 0x82f63b78, 0x05ec76f1}
	for i := range 32 {
		patterns = append(patterns, 1<<i)
	}
	return patterns
}

func TestBurstExamples(t *testing.T) {
	if got := crc.Burst([]byte{0}, 6, 7); !bytes.Equal(got, []byte{192}) {
		t.Errorf("Burst([0], 6, 7) = %v", got)
	}
	if got := crc.Burst([]byte{0}, -1, 3); !bytes.Equal(got, []byte{1}) {
		t.Errorf("Burst([0], -1, 3) = %v", got)
	}
}

func TestBurstAtEveryBit(t *testing.T) {
	for n := range 7 {
		p := irregular(uint32(n), n)
		for bit := -40; bit <= 8*n+8; bit++ {
			for _, pattern := range samplePatterns() {
				if got, want := crc.Burst(p, bit, pattern), slowBurst(p, bit, pattern); !bytes.Equal(got, want) {
					t.Fatalf("Burst(%x, %d, %x) = %x, want %x", p, bit, pattern, got, want)
				}
			}
		}
	}
}

func TestBurstFarFromTheBytes(t *testing.T) {
	far := []int{math.MinInt, math.MinInt + 1, math.MinInt + 31, -1 << 32, -1000, -32, 40, 72, 1 << 31, 1 << 32, 1<<32 + 3, 1 << 34, 1 << 35, 1 << 61, 1 << 62, math.MaxInt - 32, math.MaxInt - 31, math.MaxInt - 30, math.MaxInt - 1, math.MaxInt}
	p := irregular(1, 5)
	for _, bit := range far {
		for _, pattern := range samplePatterns() {
			if got := crc.Burst(p, bit, pattern); !bytes.Equal(got, p) {
				t.Errorf("Burst(%x, %d, %x) = %x", p, bit, pattern, got)
			}
			if got := crc.Burst(nil, bit, pattern); len(got) != 0 {
				t.Errorf("Burst(nil, %d, %x) = %x", bit, pattern, got)
			}
		}
	}
}

func TestBurstReturnsACopy(t *testing.T) {
	p := irregular(4, 16)
	former := bytes.Clone(p)
	for _, pattern := range []uint32{0, 1, 0xffffffff} {
		q := crc.Burst(p, 3, pattern)
		want := slowBurst(p, 3, pattern)
		if !bytes.Equal(p, former) {
			t.Fatalf("Burst has changed its argument: %x", p)
		}
		clear(q)
		if !bytes.Equal(p, former) {
			t.Fatal("the result shares memory with the argument")
		}
		if again := crc.Burst(p, 3, pattern); !bytes.Equal(again, want) {
			t.Fatalf("Burst = %x, want %x", again, want)
		}
	}
	// Bytes behind the argument in the same memory are not the argument's.
	whole := irregular(5, 12)
	former = bytes.Clone(whole)
	q := crc.Burst(whole[:4], 20, 0xffffffff)
	q = append(q, 9, 9, 9)
	if !bytes.Equal(whole, former) || len(q) != 7 {
		t.Error("Burst has used memory behind its argument")
	}
}

func TestSumDetectsEveryBurst(t *testing.T) {
	for _, n := range []int{0, 1, 2, 3, 4, 5, 8, 13, 40} {
		p := irregular(uint32(n+9), n)
		sum := crc.Sum(p)
		for bit := -35; bit <= 8*n+3; bit++ {
			for _, pattern := range samplePatterns() {
				q := crc.Burst(p, bit, pattern)
				if (crc.Sum(q) != sum) != !bytes.Equal(p, q) {
					t.Fatalf("Sum(%x) = %x, Sum(%x) = %x", p, sum, q, crc.Sum(q))
				}
			}
		}
	}
}

func TestSumDetectsEveryPatternOfShortBursts(t *testing.T) {
	p := irregular(2, 9)
	sum := crc.Sum(p)
	for pattern := uint32(1); pattern < 1<<12; pattern++ {
		for _, bit := range []int{0, 1, 7, 13, 29, 60} {
			if crc.Sum(crc.Burst(p, bit, pattern)) == sum {
				t.Fatalf("Sum does not see the burst %x at bit %d", pattern, bit)
			}
		}
	}
}

func TestSumOfExclusiveOr(t *testing.T) {
	for n := range 100 {
		x, y, z := irregular(uint32(n), n), irregular(uint32(n+1000), n), irregular(uint32(n+2000), n)
		all := make([]byte, n)
		for i := range all {
			all[i] = x[i] ^ y[i] ^ z[i]
		}
		if got, want := crc.Sum(all), crc.Sum(x)^crc.Sum(y)^crc.Sum(z); got != want {
			t.Errorf("%d bytes: %x, want %x", n, got, want)
		}
	}
}

func TestSumOfBytesWithTheirSum(t *testing.T) {
	for n := range 200 {
		p := irregular(uint32(n), n)
		sum := crc.Sum(p)
		p = append(p, byte(sum), byte(sum>>8), byte(sum>>16), byte(sum>>24))
		if got := crc.Sum(p); got != 0x48674bc7 {
			t.Errorf("%d bytes: %x", n, got)
		}
	}
}

func TestArgumentsAreNotChanged(t *testing.T) {
	p := irregular(6, 77)
	ws := []uint64{1, 1 << 40, math.MaxUint64}
	crc.Sum(p)
	crc.Update(9, p)
	crc.Words(ws)
	if !bytes.Equal(p, irregular(6, 77)) || !slices.Equal(ws, []uint64{1, 1 << 40, math.MaxUint64}) {
		t.Errorf("the arguments are now %x, %x", p, ws)
	}
}

// callAll returns what one call of each function yields, to compare it with what later calls yield.
func callAll() []uint32 {
	p := irregular(8, 50)
	return []uint32{
		crc.Sum(p), crc.Update(77, p), crc.Words([]uint64{5, 6}), crc.Combine(77, 78, 1000),
		slowSum(crc.Burst(p, 9, 0xf00f)),
	}
}

func TestResultsDependOnTheArgumentsAlone(t *testing.T) {
	want := callAll()
	for range 3 {
		crc.Sum(irregular(1, 9))
		crc.Combine(1, 2, math.MaxInt)
		crc.Burst(irregular(1, 9), 4, 5)
		if got := callAll(); !slices.Equal(got, want) {
			t.Fatalf("the calls returned %x, and later %x", want, got)
		}
	}
}
