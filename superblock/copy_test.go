package superblock_test

import (
	"math"
	"testing"

	"bedrock/api"
	"bedrock/device"
	"bedrock/mem"
	sb "bedrock/superblock"
)

// The words of a copy, written out.
func TestWordsOfACopy(t *testing.T) {
	s := sb.Super{Version: 0xabcd, Lines: 0x0fff, Redo: 0x123, Undo: 0x045, Descriptors: 0x067, Queue: 0x089, Table: 0x0ab}
	d, _ := device.New(4096)
	if err := sb.Format(d.Thread(0), s); err != api.OK {
		t.Fatal(err)
	}
	got := lineAt(d, 0)
	want := line{0x6b636f7264656231, 1, 0x004501230fffabcd, 0x000000ab00890067, 0, 0, 0, got[7]}
	if got != want || got != want.summed() {
		t.Errorf("%x", got)
	}
	if err := sb.Update(d.Thread(0), s); err != api.OK {
		t.Fatal(err)
	}
	got = lineAt(d, 1)
	want[1], want[7] = 2, got[7]
	if got != want || got != want.summed() {
		t.Errorf("%x", got)
	}
}

// judge is the definition of a good copy.
func judge(l line, lines int) (sb.Super, api.Errno) {
	field := func(w uint64, i int) int { return int(w >> (16 * i) & 0xffff) }
	s := sb.Super{
		Version: field(l[2], 0), Lines: field(l[2], 1), Redo: field(l[2], 2), Undo: field(l[2], 3),
		Descriptors: field(l[3], 0), Queue: field(l[3], 1), Table: field(l[3], 2), Gen: l[1],
	}
	if !isValid(s) || s.Lines > lines || lineOf(s) != l {
		return sb.Super{}, api.ErrSum
	}
	return s, api.OK
}

// checkPair compares what Open and Check return for two lines.
func checkPair(t *testing.T, lines int, first, second line) {
	t.Helper()
	m := newRecorder(lines, first, second)
	a, errA := judge(first, lines)
	b, errB := judge(second, lines)
	if x, y := sb.Check(m); x != errA || y != errB {
		t.Fatalf("%x, %x: Check: %v, %v, want %v, %v", first, second, x, y, errA, errB)
	}
	want, err := a, api.OK
	switch {
	case errA != api.OK && errB != api.OK:
		err = api.ErrSum
	case errA != api.OK, errB == api.OK && b.Gen > a.Gen:
		want = b
	}
	if s, e := sb.Open(m); s != want || e != err {
		t.Fatalf("%x, %x: Open: %v, %v, want %v, %v", first, second, s, e, want, err)
	}
	if len(m.program) != 0 {
		t.Fatal("a change", m.program)
	}
}

// P13.2: the generations of two good copies.
func TestGenerations(t *testing.T) {
	gens := []uint64{0, 1, 2, 255, 1 << 31, 1<<32 - 1, 1 << 32, 1<<63 - 1, 1 << 63, 1<<63 + 1, math.MaxUint64 - 1, math.MaxUint64}
	for _, a := range gens {
		for _, b := range gens {
			checkPair(t, 48, lineOf(generation(small(1), a)), lineOf(generation(small(2), b)))
		}
		opens(t, newRecorder(48, lineOf(generation(small(1), a)), line{}), generation(small(1), a), api.OK, api.ErrSum)
		opens(t, newRecorder(48, line{}, lineOf(generation(small(1), a))), generation(small(1), a), api.ErrSum, api.OK)
		opens(t, newRecorder(48, lineOf(generation(small(1), a)), lineOf(generation(small(2), a))), generation(small(1), a), api.OK, api.OK)
	}
}

// P13.2: every single inverted bit, and every word that is another one.
func TestDamagedBits(t *testing.T) {
	s := sequence(21)
	for range 5 {
		good := lineOf(s.random(500))
		beside := lineOf(s.random(500))
		for bit := range 512 {
			bad := good
			bad[bit/64] ^= 1 << (bit % 64)
			checkPair(t, 500, bad, beside)
			checkPair(t, 500, beside, bad)
			m := newRecorder(500, bad, line{})
			if x, err := sb.Open(m); x != (sb.Super{}) || err != api.ErrSum {
				t.Fatal(bit, x, err)
			}
		}
		for word := range 8 {
			for _, v := range []uint64{0, 1, 1 << 32, math.MaxUint64, s.next()} {
				bad := good
				bad[word] = v
				checkPair(t, 500, bad, beside)
				checkPair(t, 500, beside, bad)
				checkPair(t, 500, bad, bad)
			}
		}
	}
}

// P13.2: lines with their check word that are no copy of a valid Super.
func TestSummedLines(t *testing.T) {
	good := lineOf(generation(small(3), 9))
	beside := lineOf(generation(small(4), 8))
	var bad []line
	add := func(word int, v uint64) {
		l := good
		l[word] = v
		bad = append(bad, l.summed())
	}
	for _, w := range []uint64{0, 1, sb.Magic - 1, sb.Magic + 1, math.MaxUint64} {
		add(0, w)
	}
	for bit := range 64 {
		add(0, good[0]^1<<bit)
		add(4, 1<<bit)
		add(5, 1<<bit)
		add(6, 1<<bit)
	}
	for bit := 48; bit < 64; bit++ {
		add(3, good[3]|1<<bit)
	}
	for i := range fields(&sb.Super{}) {
		s := generation(small(3), 9)
		*fields(&s)[i] = 65535
		if i > 0 {
			bad = append(bad, lineOf(s))
		}
		*fields(&s)[i] = 0
		if i < 5 {
			bad = append(bad, lineOf(s))
		}
	}
	for _, l := range bad {
		checkPair(t, 48, l, beside)
		checkPair(t, 48, beside, l)
		opens(t, newRecorder(48, l, beside), generation(small(4), 8), api.ErrSum, api.OK)
		if x, err := sb.Open(newRecorder(48, line{}, l)); x != (sb.Super{}) || err != api.ErrSum {
			t.Fatalf("%x: %v, %v", l, x, err)
		}
	}
	l := good
	l[7] += 1 << 32
	checkPair(t, 48, l, beside)
	l[7] -= 2 << 32
	checkPair(t, 48, l, beside)
}

// P13.2: random words in the packed numbers.
func TestRandomLines(t *testing.T) {
	s := sequence(22)
	for range 5000 {
		lines := 46 + s.below(4051)
		l := lineOf(s.random(lines))
		for range s.below(3) {
			l[2+s.below(2)] ^= 1 << s.below(64)
		}
		if s.below(8) > 0 {
			l = l.summed()
		}
		checkPair(t, lines, l, lineOf(s.random(lines)))
		checkPair(t, lines-1+s.below(3), line{}, l)
	}
}

// P13.2: a copy for more lines than the memory has is not good; one for fewer lines is.
func TestLinesOfACopy(t *testing.T) {
	for _, lines := range []int{46, 48, 127, 128, 4095, 4096} {
		s := sb.Super{Version: 1, Lines: lines, Redo: 1, Undo: 1, Descriptors: 1, Gen: 4}
		fewer := s
		fewer.Lines, fewer.Gen = 46, 3
		for _, more := range []int{-1, 0, 1, 5000} {
			if lines+more < 46 {
				continue
			}
			checkPair(t, lines+more, lineOf(s), lineOf(fewer))
			checkPair(t, lines+more, lineOf(fewer), lineOf(s))
		}
		m := newRecorder(lines, lineOf(s), line{})
		for _, size := range []uint64{m.size, m.size + 63, math.MaxUint64} {
			m.size = size
			opens(t, m, s, api.OK, api.ErrSum)
		}
		// The last line of this memory is not whole.
		m.size = uint64(64*lines - 1)
		if x, err := sb.Open(m); x != (sb.Super{}) || err != api.ErrSum {
			t.Fatal(x, err)
		}
	}
	// A memory of two lines has both copies, but is too small for what they describe.
	m := newRecorder(2, lineOf(small(1)), lineOf(small(2)))
	if a, b := sb.Check(m); a != api.ErrSum || b != api.ErrSum {
		t.Error(a, b)
	}
}

// P13.2: the current content counts, through every memory.
func TestMemories(t *testing.T) {
	d := newDevice(t, 48, lineOf(generation(small(1), 1)), line{})
	o := mem.Over(d.Thread(0))
	c := mem.Count(o)
	if err := sb.Update(c, small(2)); err != api.OK {
		t.Fatal(err)
	}
	opens(t, c, generation(small(2), 2), api.OK, api.OK)
	opens(t, o, generation(small(2), 2), api.OK, api.OK)
	opens(t, d.Thread(0), generation(small(1), 1), api.OK, api.ErrSum)
	if c.Stores() != 9 || c.Flushes() != 1 || c.Fences() != 1 || d.Executed() != 20 {
		t.Error(c.Stores(), c.Flushes(), c.Fences(), d.Executed())
	}
	p, _ := sb.Plan(d.Thread(1), small(3))
	p[:9].Run(d.Thread(1))
	opens(t, d.Thread(2), generation(small(3), 2), api.OK, api.OK)
}
