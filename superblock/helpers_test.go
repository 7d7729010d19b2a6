package superblock_test

import (
	"encoding/binary"
	"maps"
	"math/big"
	"slices"
	"testing"

	"bedrock/api"
	"bedrock/crashset"
	"bedrock/crc"
	"bedrock/device"
	"bedrock/mem"
	sb "bedrock/superblock"
)

// sequence yields a fixed irregular sequence of numbers.
type sequence uint64

func (s *sequence) next() uint64 {
	x := *s
	x ^= x << 13
	x ^= x >> 7
	x ^= x << 17
	*s = x
	return uint64(x) * 0x2545f4914f6cdd1d
}

func (s *sequence) below(n int) int {
	return int(s.next() >> 33 % uint64(n))
}

// small returns a Super for the smallest devices, which differs from others by its version.
func small(version int) sb.Super {
	return sb.Super{Version: version, Lines: 48, Redo: 1, Undo: 1, Descriptors: 1, Queue: 1, Table: 1}
}

// generation returns s with a generation.
func generation(s sb.Super, gen uint64) sb.Super {
	s.Gen = gen
	return s
}

// isValid is the definition of a valid Super, with sums that do not overflow.
func isValid(s sb.Super) bool {
	heap := big.NewInt(int64(s.Lines))
	for _, n := range []int{2, 8, s.Redo, s.Undo, s.Descriptors, 1, s.Queue, s.Table} {
		heap.Sub(heap, big.NewInt(int64(n)))
	}
	return s.Version >= 1 && s.Version <= 65535 && s.Lines >= 1 && s.Lines <= 4096 &&
		s.Redo >= 1 && s.Undo >= 1 && s.Descriptors >= 1 && s.Queue >= 0 && s.Table >= 0 &&
		heap.Cmp(big.NewInt(32)) >= 0
}

// random returns a valid Super for a device of that many lines, at least 46.
func (s *sequence) random(lines int) sb.Super {
	used := lines - s.below(min(20, lines-45))
	// What five regions may have beyond the smallest pool.
	more := (used-46)/5 + 1
	return sb.Super{
		Version:     1 + s.below(65535),
		Lines:       used,
		Redo:        1 + s.below(more),
		Undo:        1 + s.below(more),
		Descriptors: 1 + s.below(more),
		Queue:       s.below(more),
		Table:       s.below(more),
		Gen:         s.next(),
	}
}

// line is a line's words.
type line [8]uint64

// lineOf returns the copy of s as the table of the chapter describes it.
func lineOf(s sb.Super) line {
	l := line{0x6b636f7264656231, s.Gen}
	for i, n := range []int{s.Version, s.Lines, s.Redo, s.Undo} {
		l[2] += uint64(n) << (16 * i)
	}
	for i, n := range []int{s.Descriptors, s.Queue, s.Table} {
		l[3] += uint64(n) << (16 * i)
	}
	return l.summed()
}

// summed returns the words with the check word of the others.
func (l line) summed() line {
	var p []byte
	for _, w := range l[:7] {
		p = binary.LittleEndian.AppendUint64(p, w)
	}
	l[7] = 1<<32 + uint64(crc.Sum(p))
	return l
}

// put makes the words the persistent content of a line.
func (l line) put(t *testing.T, d *device.Device, n int) {
	t.Helper()
	thread := d.Thread(7)
	for i, w := range l {
		thread.Store(uint64(64*n+8*i), w)
	}
	thread.Flush(uint64(64 * n))
	thread.Fence()
	if thread.Err() != api.OK {
		t.Fatal(thread.Err())
	}
}

// lineAt returns the persistent words of a line.
func lineAt(d *device.Device, n int) line {
	var l line
	for i := range l {
		l[i] = binary.LittleEndian.Uint64(d.Persisted()[64*n+8*i:])
	}
	return l
}

// newDevice returns a device with the copies.
func newDevice(t *testing.T, lines int, first, second line) *device.Device {
	t.Helper()
	d, err := device.New(lines)
	if err != api.OK {
		t.Fatal(err)
	}
	first.put(t, d, 0)
	second.put(t, d, 1)
	return d
}

// recorder is a memory of any size that keeps the program that it has executed. From the instruction number failing on (loads count as well), if that is not 0, its error is ErrOff.
type recorder struct {
	size    uint64
	err     api.Errno
	failing int
	count   int
	words   map[uint64]uint64
	program mem.Program
}

func newRecorder(lines int, first, second line) *recorder {
	r := &recorder{size: uint64(lines) * 64, words: map[uint64]uint64{}}
	for i := range first {
		r.words[uint64(8*i)] = first[i]
		r.words[uint64(64+8*i)] = second[i]
	}
	return r
}

func (r *recorder) copy() *recorder {
	c := *r
	c.words = maps.Clone(r.words)
	c.program = slices.Clone(r.program)
	return &c
}

func (r *recorder) tick() {
	r.count++
	if r.count == r.failing {
		r.err = api.ErrOff
	}
}

func (r *recorder) Load(off uint64) uint64 {
	r.tick()
	return r.words[off]
}

func (r *recorder) Store(off, v uint64) {
	r.tick()
	r.words[off] = v
	r.program = append(r.program, mem.Instr{Op: mem.StoreOp, Off: off, Value: v})
}

func (r *recorder) Flush(off uint64) {
	r.tick()
	r.program = append(r.program, mem.Instr{Op: mem.FlushOp, Off: off})
}

func (r *recorder) Fence() {
	r.tick()
	r.program = append(r.program, mem.Instr{Op: mem.FenceOp})
}

func (r *recorder) Size() uint64   { return r.size }
func (r *recorder) Err() api.Errno { return r.err }

// writing is the program of P13.3 that writes s to a copy.
func writing(s sb.Super, number int) mem.Program {
	at := uint64(64 * number)
	l := lineOf(s)
	p := mem.Program{{Op: mem.StoreOp, Off: at + 56}}
	for i, w := range l {
		p = append(p, mem.Instr{Op: mem.StoreOp, Off: at + uint64(8*i), Value: w})
	}
	return append(p, mem.Instr{Op: mem.FlushOp, Off: at}, mem.Instr{Op: mem.FenceOp})
}

func sameProgram(t *testing.T, what string, got, want mem.Program) {
	t.Helper()
	if !slices.Equal(got, want) {
		t.Fatalf("%s: the program is %v, want %v", what, got, want)
	}
}

// images calls look with a device for each crash image of d.
func images(t *testing.T, d *device.Device, look func(after *device.Device)) {
	t.Helper()
	for i := range crashset.All(d, 1<<20) {
		after, err := i.Device()
		if err != api.OK {
			t.Fatal(err)
		}
		look(after)
	}
}

// cuts calls run on copies of d in which the power fails at each instruction, and look with a device for each crash image; ended says whether run had ended. It returns the number of instructions of run.
func cuts(t *testing.T, d *device.Device, run func(m mem.Memory) api.Errno, look func(after *device.Device, ended bool)) int {
	t.Helper()
	for n := 0; ; n++ {
		c := d.Copy()
		c.Arm(n)
		err := run(c.Thread(0))
		if c.Off() != (err == api.ErrOff) || !c.Off() && err != api.OK {
			t.Fatalf("cut at %d: %v", n, err)
		}
		images(t, c, func(after *device.Device) { look(after, !c.Off()) })
		if !c.Off() {
			return n
		}
	}
}

// opens checks what Open and Check return.
func opens(t *testing.T, m mem.Memory, want sb.Super, first, second api.Errno) {
	t.Helper()
	if s, err := sb.Open(m); err != api.OK || s != want {
		t.Fatalf("Open: %v, %v, want %v", s, err, want)
	}
	if a, b := sb.Check(m); a != first || b != second {
		t.Fatalf("Check: %v, %v, want %v, %v", a, b, first, second)
	}
}
