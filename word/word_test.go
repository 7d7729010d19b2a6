package word_test

import (
	"bytes"
	"math"
	"slices"
	"testing"

	"bedrock/api"
	"bedrock/word"
)

// sampleWords returns words of all densities: single bits, runs, borders, and a fixed sequence of irregular ones.
func sampleWords() []uint64 {
	ws := []uint64{0, math.MaxUint64, 0xff00, 0xaaaaaaaaaaaaaaaa, 0x5555555555555555, 0x8000000000000001, 0x0123456789abcdef}
	for i := range 64 {
		ws = append(ws, 1<<i, 1<<i-1, ^uint64(1<<i))
	}
	x := uint64(0x9e3779b97f4a7c15)
	for range 40 {
		x ^= x << 13
		x ^= x >> 7
		x ^= x << 17
		ws = append(ws, x)
	}
	return ws
}

// bytesUpTo returns n bytes, none of which is 0, with the highest bit set in every second one.
func bytesUpTo(n int) []byte {
	p := make([]byte, n)
	for i := range p {
		p[i] = byte(i*37%127+1) | byte(i%2<<7)
	}
	return p
}

func bitOf(w uint64, i int) uint64 {
	return w >> i & 1
}

func fieldIsValid(shift, width int) bool {
	return shift >= 0 && shift < 64 && width >= 1 && width <= 64 && shift+width <= 64
}

func slowField(w uint64, shift, width int) uint64 {
	r := uint64(0)
	for i := range width {
		r |= bitOf(w, shift+i) << i
	}
	return r
}

func slowSetField(w uint64, shift, width int, v uint64) uint64 {
	for i := range width {
		if bitOf(w, shift+i) != bitOf(v, i) {
			w ^= 1 << (shift + i)
		}
	}
	return w
}

func TestFieldExamples(t *testing.T) {
	if got := word.Field(0xff00, 8, 4); got != 0xf {
		t.Errorf("Field(ff00, 8, 4) = %x", got)
	}
	if got := word.SetField(0xff00, 8, 4, 3); got != 0xf300 {
		t.Errorf("SetField(ff00, 8, 4, 3) = %x", got)
	}
	if got := word.Field(1, 60, 5); got != 0 {
		t.Errorf("Field(1, 60, 5) = %x", got)
	}
}

func TestFieldReadsEveryField(t *testing.T) {
	for _, w := range sampleWords() {
		for shift := range 64 {
			for width := 1; width <= 64-shift; width++ {
				if got, want := word.Field(w, shift, width), slowField(w, shift, width); got != want {
					t.Fatalf("Field(%x, %d, %d) = %x, want %x", w, shift, width, got, want)
				}
			}
		}
	}
}

func TestSetFieldWritesEveryField(t *testing.T) {
	values := []uint64{0, 1, math.MaxUint64, 0xfedcba9876543210, 0xa5a5a5a5a5a5a5a5}
	for _, w := range []uint64{0, math.MaxUint64, 0x0123456789abcdef, 0x8000000000000001} {
		for _, v := range values {
			for shift := range 64 {
				for width := 1; width <= 64-shift; width++ {
					got, want := word.SetField(w, shift, width, v), slowSetField(w, shift, width, v)
					if got != want {
						t.Fatalf("SetField(%x, %d, %d, %x) = %x, want %x", w, shift, width, v, got, want)
					}
				}
			}
		}
	}
}

func TestInvalidFields(t *testing.T) {
	numbers := []int{math.MinInt, math.MinInt + 1, -65, -64, -63, -1, 0, 1, 2, 8, 60, 63, 64, 65, 127, 128, math.MaxInt - 63, math.MaxInt - 1, math.MaxInt}
	for _, w := range []uint64{1, math.MaxUint64, 0x0123456789abcdef} {
		for _, shift := range numbers {
			for _, width := range numbers {
				if fieldIsValid(shift, width) {
					continue
				}
				if got := word.Field(w, shift, width); got != 0 {
					t.Errorf("Field(%x, %d, %d) = %x", w, shift, width, got)
				}
				if got := word.SetField(w, shift, width, ^w); got != w {
					t.Errorf("SetField(%x, %d, %d, %x) = %x", w, shift, width, ^w, got)
				}
			}
		}
	}
}

func TestFieldsThatEndJustBeyondTheWord(t *testing.T) {
	for shift := range 66 {
		width := max(65-shift, 1)
		if got := word.Field(math.MaxUint64, shift, width); got != 0 {
			t.Errorf("Field(ff..ff, %d, %d) = %x", shift, width, got)
		}
		if got := word.SetField(5, shift, width, math.MaxUint64); got != 5 {
			t.Errorf("SetField(5, %d, %d, ff..ff) = %x", shift, width, got)
		}
	}
}

func TestAlignUp(t *testing.T) {
	const top = math.MaxUint64
	cases := []struct {
		off, a, want uint64
		err          api.Errno
	}{
		{65, 64, 128, api.OK},
		{64, 64, 64, api.OK},
		{1, 3, 0, api.ErrArg},
		{0, 1, 0, api.OK},
		{0, 64, 0, api.OK},
		{0, 1 << 63, 0, api.OK},
		{1, 64, 64, api.OK},
		{63, 64, 64, api.OK},
		{top, 1, top, api.OK},
		{top - 1, 1, top - 1, api.OK},
		{top, 2, 0, api.ErrRange},
		{top - 1, 2, top - 1, api.OK},
		{top - 63, 64, top - 63, api.OK},
		{top - 62, 64, 0, api.ErrRange},
		{top, 64, 0, api.ErrRange},
		{top - 64, 64, top - 63, api.OK},
		{1, 1 << 63, 1 << 63, api.OK},
		{1 << 63, 1 << 63, 1 << 63, api.OK},
		{1<<63 + 1, 1 << 63, 0, api.ErrRange},
		{top, 1 << 63, 0, api.ErrRange},
		{1<<32 + 1, 1 << 32, 1 << 33, api.OK},
	}
	for _, c := range cases {
		if got, err := word.AlignUp(c.off, c.a); got != c.want || err != c.err {
			t.Errorf("AlignUp(%d, %d) = %d, %d; want %d, %d", c.off, c.a, got, err, c.want, c.err)
		}
	}
}

func TestAlignUpIsTheLowestMultiple(t *testing.T) {
	for shift := range 12 {
		a := uint64(1) << shift
		want := uint64(0)
		for off := range uint64(5000) {
			if off > want {
				want += a
			}
			if got, err := word.AlignUp(off, a); got != want || err != api.OK {
				t.Fatalf("AlignUp(%d, %d) = %d, %d; want %d", off, a, got, err, want)
			}
		}
	}
}

func TestAlignUpAcceptsEveryPowerOfTwo(t *testing.T) {
	for shift := range 64 {
		a := uint64(1) << shift
		if got, err := word.AlignUp(a, a); got != a || err != api.OK {
			t.Errorf("AlignUp(%d, %d) = %d, %d", a, a, got, err)
		}
		// The highest multiple is 2^64 - a.
		if got, err := word.AlignUp(-a, a); got != -a || err != api.OK {
			t.Errorf("AlignUp(%d, %d) = %d, %d", -a, a, got, err)
		}
		if got, err := word.AlignUp(-a+1, a); shift > 0 && (got != 0 || err != api.ErrRange) {
			t.Errorf("AlignUp(%d, %d) = %d, %d", -a+1, a, got, err)
		}
	}
}

func TestAlignUpRejectsOtherAlignments(t *testing.T) {
	bad := []uint64{0, 3, 5, 6, 7, 9, 12, 24, 63, 65, 96, 100, 1<<32 + 1, 1<<63 + 1, 1<<63 | 1<<62, math.MaxUint64 - 1, math.MaxUint64}
	for _, a := range bad {
		// ErrArg comes before ErrRange, and also where off is a multiple already.
		for _, off := range []uint64{0, 1, a, 64, 1 << 63, math.MaxUint64} {
			if got, err := word.AlignUp(off, a); got != 0 || err != api.ErrArg {
				t.Errorf("AlignUp(%d, %d) = %d, %d; want ErrArg", off, a, got, err)
			}
		}
	}
}

func TestLine(t *testing.T) {
	for off := range uint64(1000) {
		want := uint64(0)
		for (want+1)*64 <= off {
			want++
		}
		if got := word.Line(off); got != want {
			t.Fatalf("Line(%d) = %d, want %d", off, got, want)
		}
	}
	if got := word.Line(math.MaxUint64); got != 1<<58-1 {
		t.Errorf("Line(2^64 - 1) = %d", got)
	}
	if got := word.Line(1 << 63); got != 1<<57 {
		t.Errorf("Line(2^63) = %d", got)
	}
}

func TestSpanCountsTheLinesOfItsBytes(t *testing.T) {
	for off := range uint64(150) {
		lines := map[uint64]bool{}
		for n := uint64(1); n < 300; n++ {
			lines[(off+n-1)/64] = true
			first, count := word.Span(off, n)
			if first != off/64 || count != uint64(len(lines)) {
				t.Fatalf("Span(%d, %d) = %d, %d; want %d, %d", off, n, first, count, off/64, len(lines))
			}
		}
	}
}

func TestSpanBorders(t *testing.T) {
	const top = math.MaxUint64
	cases := []struct{ off, n, first, count uint64 }{
		{60, 8, 0, 2},
		{0, 0, 0, 0},
		{100, 0, 0, 0},
		{top, 0, 0, 0},
		{0, top, 0, 1 << 58},
		{1, top, 0, 1 << 58},
		{2, top, 0, 1 << 58},
		{63, top, 0, 1 << 58},
		{64, top, 1, 1<<58 - 1},
		{128, top - 127, 2, 1<<58 - 2},
		{128, top - 126, 2, 1<<58 - 2},
		{1 << 63, 1 << 63, 1 << 57, 1 << 57},
		{1 << 63, 1<<63 + 1, 1 << 57, 1 << 57},
		{1 << 63, 1<<63 - 64, 1 << 57, 1<<57 - 1},
		{top, 1, 1<<58 - 1, 1},
		{top, 2, 1<<58 - 1, 1},
		{top, top, 1<<58 - 1, 1},
		{top - 64, 1, 1<<58 - 2, 1},
		{top - 64, 2, 1<<58 - 2, 2},
		{top - 64, 66, 1<<58 - 2, 2},
	}
	for _, c := range cases {
		if first, count := word.Span(c.off, c.n); first != c.first || count != c.count {
			t.Errorf("Span(%d, %d) = %d, %d; want %d, %d", c.off, c.n, first, count, c.first, c.count)
		}
	}
}

func slowPack(p []byte) []uint64 {
	var ws []uint64
	for len(p) > 0 {
		w := uint64(0)
		n := min(len(p), 8)
		for i := n - 1; i >= 0; i-- {
			w = w*256 + uint64(p[i])
		}
		ws = append(ws, w)
		p = p[n:]
	}
	return ws
}

func TestPackExamples(t *testing.T) {
	if ws := word.Pack([]byte{1, 2}); !slices.Equal(ws, []uint64{0x201}) {
		t.Errorf("Pack(1, 2) = %x", ws)
	}
	if p, err := word.Unpack([]uint64{0x201}, 2); !bytes.Equal(p, []byte{1, 2}) || err != api.OK {
		t.Errorf("Unpack(201, 2) = %v, %d", p, err)
	}
	if p, err := word.Unpack([]uint64{0x201}, 1); len(p) != 0 || err != api.ErrForm {
		t.Errorf("Unpack(201, 1) = %v, %d", p, err)
	}
}

func TestPackAndUnpackAreInverse(t *testing.T) {
	for n := range 70 {
		p := bytesUpTo(n)
		ws := word.Pack(p)
		if want := slowPack(p); !slices.Equal(ws, want) {
			t.Errorf("Pack of %d bytes = %x, want %x", n, ws, want)
		}
		if got, err := word.Unpack(slowPack(p), n); !bytes.Equal(got, p) || err != api.OK {
			t.Errorf("Unpack of %d bytes = %v, %d", n, got, err)
		}
	}
	if ws := word.Pack(nil); len(ws) != 0 {
		t.Errorf("Pack(nil) = %x", ws)
	}
	if p, err := word.Unpack(nil, 0); len(p) != 0 || err != api.OK {
		t.Errorf("Unpack(nil, 0) = %v, %d", p, err)
	}
	if p, err := word.Unpack([]uint64{0, 0}, 16); !bytes.Equal(p, make([]byte, 16)) || err != api.OK {
		t.Errorf("Unpack of zeros = %v, %d", p, err)
	}
}

func TestPackKeepsTrailingZeroBytes(t *testing.T) {
	for n := range 20 {
		if ws := word.Pack(make([]byte, n)); !slices.Equal(ws, make([]uint64, (n+7)/8)) {
			t.Errorf("Pack of %d zero bytes = %x", n, ws)
		}
		if p, err := word.Unpack(make([]uint64, (n+7)/8), n); !bytes.Equal(p, make([]byte, n)) || err != api.OK {
			t.Errorf("Unpack of %d zero bytes = %v, %d", n, p, err)
		}
	}
}

func wantUnpackError(t *testing.T, ws []uint64, n int, want api.Errno) {
	t.Helper()
	if p, err := word.Unpack(ws, n); len(p) != 0 || err != want {
		t.Errorf("Unpack(%x, %d) = %v, %d; want %d", ws, n, p, err, want)
	}
}

func TestUnpackRejectsNegativeLengths(t *testing.T) {
	for _, n := range []int{-1, -7, -8, -9, -64, math.MinInt, math.MinInt + 7} {
		wantUnpackError(t, nil, n, api.ErrArg)
		wantUnpackError(t, []uint64{0}, n, api.ErrArg)
		wantUnpackError(t, []uint64{7, 7}, n, api.ErrArg)
	}
}

func TestUnpackRejectsWrongNumbersOfWords(t *testing.T) {
	for n := range 40 {
		for count := range 8 {
			if count != (n+7)/8 {
				wantUnpackError(t, make([]uint64, count), n, api.ErrForm)
			}
		}
	}
	for _, n := range []int{math.MaxInt, math.MaxInt - 6, math.MaxInt - 7, math.MaxInt - 8, 1 << 62, 1 << 32, 1<<31 - 1} {
		wantUnpackError(t, nil, n, api.ErrForm)
		wantUnpackError(t, []uint64{0}, n, api.ErrForm)
	}
}

func TestUnpackRejectsBytesAfterTheEnd(t *testing.T) {
	for n := 1; n < 24; n++ {
		for after := n; after < (n+7)/8*8; after++ {
			for bit := range 8 {
				ws := slowPack(bytesUpTo(n))
				ws[after/8] |= 1 << (after%8*8 + bit)
				wantUnpackError(t, ws, n, api.ErrForm)
			}
		}
	}
}

func TestPackSharesNoMemory(t *testing.T) {
	p := bytesUpTo(19)
	ws := word.Pack(p)
	if !bytes.Equal(p, bytesUpTo(19)) {
		t.Errorf("Pack has changed its argument: %v", p)
	}
	got, _ := word.Unpack(ws, 19)
	if !slices.Equal(ws, slowPack(p)) {
		t.Errorf("Unpack has changed its argument: %x", ws)
	}
	again, _ := word.Unpack(ws, 19)
	clear(ws)
	clear(got)
	if !bytes.Equal(p, bytesUpTo(19)) || !bytes.Equal(again, p) || !slices.Equal(word.Pack(p), slowPack(p)) {
		t.Error("the results share memory")
	}
}

func TestOnesLowestSelect(t *testing.T) {
	for _, w := range sampleWords() {
		var set []int
		for i := range 64 {
			if bitOf(w, i) == 1 {
				set = append(set, i)
			}
		}
		if got := word.Ones(w); got != len(set) {
			t.Errorf("Ones(%x) = %d, want %d", w, got, len(set))
		}
		lowest := -1
		if len(set) > 0 {
			lowest = set[0]
		}
		if got := word.Lowest(w); got != lowest {
			t.Errorf("Lowest(%x) = %d, want %d", w, got, lowest)
		}
		for k := -3; k < 70; k++ {
			want := -1
			if k >= 0 && k < len(set) {
				want = set[k]
			}
			if got := word.Select(w, k); got != want {
				t.Errorf("Select(%x, %d) = %d, want %d", w, k, got, want)
			}
		}
	}
}

func TestSelectOfNumbersBeyondTheWord(t *testing.T) {
	for _, w := range []uint64{0, 1, 10, math.MaxUint64} {
		for _, k := range []int{math.MinInt, math.MinInt + 1, -64, -1, 64, 65, 128, 256, 1 << 32, math.MaxInt} {
			if got := word.Select(w, k); got != -1 {
				t.Errorf("Select(%x, %d) = %d", w, k, got)
			}
		}
	}
	if got := word.Select(10, 1); got != 3 {
		t.Errorf("Select(1010, 1) = %d", got)
	}
}

func slowMix(x uint64) uint64 {
	x ^= x / (1 << 30)
	x *= 0xbf58476d1ce4e5b9
	x ^= x / (1 << 27)
	x *= 0x94d049bb133111eb
	x ^= x / (1 << 31)
	return x
}

func TestMix(t *testing.T) {
	if got := word.Mix(0); got != 0 {
		t.Errorf("Mix(0) = %x", got)
	}
	// Published outputs of the generator splitmix64, which finalizes the multiples of one constant.
	const step = 0x9e3779b97f4a7c15
	if got := word.Mix(step); got != 0xe220a8397b1dcdaf {
		t.Errorf("the first output of seed 0 is %x", got)
	}
	state := uint64(1234567)
	for _, want := range []uint64{6457827717110365317, 3203168211198807973, 9817491932198370423, 4593380528125082431, 16408922859458223821} {
		state += step
		if got := word.Mix(state); got != want {
			t.Errorf("Mix(%d) = %d, want %d", state, got, want)
		}
	}
	for _, x := range sampleWords() {
		if got, want := word.Mix(x), slowMix(x); got != want {
			t.Errorf("Mix(%x) = %x, want %x", x, got, want)
		}
	}
}

// inverseOf returns the number whose product with the odd number x is 1; each round doubles the number of right bits.
func inverseOf(x uint64) uint64 {
	y := x
	for range 6 {
		y *= 2 - x*y
	}
	return y
}

// unshift undoes x ^ x>>n.
func unshift(x uint64, n int) uint64 {
	r := x
	for range 64 / n {
		r = x ^ r>>n
	}
	return r
}

func unmix(x uint64) uint64 {
	x = unshift(x, 31) * inverseOf(0x94d049bb133111eb)
	x = unshift(x, 27) * inverseOf(0xbf58476d1ce4e5b9)
	return unshift(x, 30)
}

func TestMixIsInjective(t *testing.T) {
	seen := map[uint64]uint64{}
	check := func(x uint64) {
		y := word.Mix(x)
		if got := unmix(y); got != x {
			t.Errorf("Mix(%x) = %x, which is the image of %x", x, y, got)
		}
		if former, ok := seen[y]; ok && former != x {
			t.Errorf("Mix(%x) = Mix(%x)", x, former)
		}
		seen[y] = x
	}
	for _, x := range sampleWords() {
		check(x)
	}
	for x := range uint64(20000) {
		check(x)
		check(-x)
	}
}

func TestHash(t *testing.T) {
	cases := []struct {
		text string
		want uint64
	}{
		{"", 0xcbf29ce484222325},
		{"a", 0xaf63dc4c8601ec8c},
		{"b", 0xaf63df4c8601f1a5},
		{"foobar", 0x85944171f73967e8},
		{"\x00", 0xaf63bd4c8601b7df},
	}
	for _, c := range cases {
		if got := word.Hash([]byte(c.text)); got != c.want {
			t.Errorf("Hash(%q) = %x, want %x", c.text, got, c.want)
		}
	}
	if got := word.Hash(nil); got != 0xcbf29ce484222325 {
		t.Errorf("Hash(nil) = %x", got)
	}
}

func TestHashOfAllBytes(t *testing.T) {
	var p []byte
	want := uint64(0xcbf29ce484222325)
	for i := range 600 {
		b := byte(i * 7)
		p = append(p, b)
		want ^= uint64(b)
		want *= 0x100000001b3
		if got := word.Hash(p); got != want {
			t.Fatalf("Hash of %d bytes = %x, want %x", i+1, got, want)
		}
	}
	for i, b := range p {
		if b != byte(i*7) {
			t.Fatalf("Hash has changed byte %d of its argument", i)
		}
	}
}

func sampleIntegers() []int64 {
	xs := []int64{math.MinInt64, math.MinInt64 + 1, -1 << 32, -256, -2, -1, 0, 1, 2, 255, 1 << 32, math.MaxInt64 - 1, math.MaxInt64}
	for _, w := range sampleWords() {
		xs = append(xs, int64(w))
	}
	return xs
}

func TestOrder(t *testing.T) {
	cases := []struct {
		x    int64
		want uint64
	}{
		{-1, 0x7fffffffffffffff},
		{0, 1 << 63},
		{1, 1<<63 + 1},
		{math.MinInt64, 0},
		{math.MinInt64 + 1, 1},
		{math.MaxInt64, math.MaxUint64},
	}
	for _, c := range cases {
		if got := word.Order(c.x); got != c.want {
			t.Errorf("Order(%d) = %x, want %x", c.x, got, c.want)
		}
		if got := word.Unorder(c.want); got != c.x {
			t.Errorf("Unorder(%x) = %d, want %d", c.want, got, c.x)
		}
	}
}

func TestOrderPreservesTheOrder(t *testing.T) {
	xs := sampleIntegers()
	for _, x := range xs {
		for _, y := range xs {
			if (word.Order(x) < word.Order(y)) != (x < y) {
				t.Fatalf("Order(%d) = %x, Order(%d) = %x", x, word.Order(x), y, word.Order(y))
			}
		}
	}
}

func TestOrderAndUnorderAreInverse(t *testing.T) {
	for _, x := range sampleIntegers() {
		if got := word.Unorder(word.Order(x)); got != x {
			t.Errorf("Unorder(Order(%d)) = %d", x, got)
		}
	}
	for _, u := range sampleWords() {
		if got := word.Order(word.Unorder(u)); got != u {
			t.Errorf("Order(Unorder(%x)) = %x", u, got)
		}
	}
}

// callAll returns what one call of each function yields, to compare it with what later calls yield.
func callAll() []uint64 {
	p := bytesUpTo(21)
	ws := word.Pack(p)
	q, unpackErr := word.Unpack(ws, 21)
	up, alignErr := word.AlignUp(1000, 64)
	first, count := word.Span(1000, 500)
	results := []uint64{
		word.Field(0x0123456789abcdef, 9, 21), word.SetField(0x0123456789abcdef, 9, 21, 77),
		up, uint64(alignErr), word.Line(1000), first, count, uint64(unpackErr), word.Hash(q),
		uint64(word.Ones(99)), uint64(word.Lowest(96)), uint64(word.Select(99, 2)),
		word.Mix(99), word.Order(-99), uint64(word.Unorder(99)),
	}
	return append(results, ws...)
}

func TestResultsDependOnTheArgumentsAlone(t *testing.T) {
	want := callAll()
	for range 3 {
		word.Unpack(nil, -1)
		word.AlignUp(1, 3)
		word.Pack(bytesUpTo(3))
		word.Hash(bytesUpTo(5))
		if got := callAll(); !slices.Equal(got, want) {
			t.Fatalf("the calls returned %x, and later %x", want, got)
		}
	}
}
