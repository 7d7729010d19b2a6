package redo_test

import (
	"encoding/binary"
	"maps"
	"slices"
	"testing"

	"bedrock/api"
	"bedrock/crashset"
	"bedrock/crc"
	"bedrock/device"
	"bedrock/mem"
	"bedrock/redo"
)

// sequence yields a fixed irregular sequence of numbers.
type sequence uint64

func (s *sequence) next() uint64 {
	x := *s
	x ^= x << 13
	x ^= x >> 7
	x ^= x << 17
	*s = x
	return uint64(x) * 0x2545f4914f6cdd1d
}

func (s *sequence) below(n int) int {
	return int(s.next() >> 33 % uint64(n))
}

// region is the lines of a log.
type region struct {
	line, lines int
}

// offset returns the offset of a word of the log.
func (r region) offset(word int) uint64 {
	return uint64(64*r.line + 8*word)
}

// words returns the offsets of the words of a memory of that many lines that are outside of the log.
func (r region) words(lines int) []uint64 {
	var offs []uint64
	for line := range lines {
		if line >= r.line && line < r.line+r.lines {
			continue
		}
		for word := range 8 {
			offs = append(offs, uint64(64*line+8*word))
		}
	}
	return offs
}

// choose returns n writes at some of the offsets, among which there can be equal ones.
func (s *sequence) choose(n int, offs []uint64) []mem.Write {
	ws := make([]mem.Write, n)
	for i := range ws {
		ws[i] = mem.Write{Off: offs[s.below(len(offs))], Value: s.next()}
	}
	return ws
}

// lastOnes returns the writes of a commit by their definition.
func lastOnes(ws []mem.Write) []mem.Write {
	var last []mem.Write
	for i, w := range ws {
		again := slices.ContainsFunc(ws[i+1:], func(later mem.Write) bool { return later.Off == w.Off })
		if !again {
			last = append(last, w)
		}
	}
	return last
}

// logOf returns the words of a committed log as the chapter describes them: the commit word, and those of the entries.
func logOf(ws []mem.Write) (uint64, []uint64) {
	var words []uint64
	var p []byte
	for _, w := range ws {
		words = append(words, w.Off, w.Value)
	}
	for _, w := range words {
		p = binary.LittleEndian.AppendUint64(p, w)
	}
	return uint64(len(ws)) + uint64(crc.Sum(p))<<32, words
}

// storing returns the stores, a flush of each of their lines and a fence.
func storing(ws ...mem.Write) mem.Program {
	var p mem.Program
	lines := map[uint64]bool{}
	for _, w := range ws {
		p = append(p, mem.Instr{Op: mem.StoreOp, Off: w.Off, Value: w.Value})
		lines[w.Off/64*64] = true
	}
	for _, off := range slices.Sorted(maps.Keys(lines)) {
		p = append(p, mem.Instr{Op: mem.FlushOp, Off: off})
	}
	return append(p, mem.Instr{Op: mem.FenceOp})
}

// recovery is the program of parts 3 and 4.
func (r region) recovery(ws []mem.Write) mem.Program {
	return append(storing(ws...), storing(mem.Write{Off: r.offset(0)})...)
}

// committing is the whole program for writes that have different offsets.
func (r region) committing(ws []mem.Write) mem.Program {
	if len(ws) == 0 {
		return nil
	}
	commit, words := logOf(ws)
	var entries []mem.Write
	for i, w := range words {
		entries = append(entries, mem.Write{Off: r.offset(8 + i), Value: w})
	}
	return slices.Concat(storing(entries...), storing(mem.Write{Off: r.offset(0), Value: commit}), r.recovery(ws))
}

func sameProgram(t *testing.T, what string, got, want mem.Program) {
	t.Helper()
	if !slices.Equal(got, want) {
		t.Fatalf("%s: the program is %v, want %v", what, got, want)
	}
}

// recorder is a memory of any size that keeps the program that it has executed. From the instruction number failing on (loads count as well), if that is not 0, its error is ErrOff, and loads return 0.
type recorder struct {
	size    uint64
	err     api.Errno
	failing int
	count   int
	words   map[uint64]uint64
	program mem.Program
}

func newRecorder(lines int) *recorder {
	return &recorder{size: uint64(lines) * 64, words: map[uint64]uint64{}}
}

// put makes the log a committed one.
func (r *recorder) put(at region, ws ...mem.Write) {
	commit, words := logOf(ws)
	r.words[at.offset(0)] = commit
	for i, w := range words {
		r.words[at.offset(8+i)] = w
	}
}

func (r *recorder) copy() *recorder {
	c := *r
	c.words = maps.Clone(r.words)
	c.program = slices.Clone(r.program)
	return &c
}

func (r *recorder) tick() {
	r.count++
	if r.count == r.failing {
		r.err = api.ErrOff
	}
}

func (r *recorder) Load(off uint64) uint64 {
	r.tick()
	if r.err == api.ErrOff {
		return 0
	}
	return r.words[off]
}

func (r *recorder) Store(off, v uint64) {
	r.tick()
	r.words[off] = v
	r.program = append(r.program, mem.Instr{Op: mem.StoreOp, Off: off, Value: v})
}

func (r *recorder) Flush(off uint64) {
	r.tick()
	r.program = append(r.program, mem.Instr{Op: mem.FlushOp, Off: off})
}

func (r *recorder) Fence() {
	r.tick()
	r.program = append(r.program, mem.Instr{Op: mem.FenceOp})
}

func (r *recorder) Size() uint64   { return r.size }
func (r *recorder) Err() api.Errno { return r.err }

// open returns a handle.
func (r region) open(t *testing.T, m mem.Memory) *redo.Log {
	t.Helper()
	l, err := redo.Open(m, r.line, r.lines)
	if err != api.OK || l == nil {
		t.Fatal(l, err)
	}
	return l
}

// newDevice returns a device with an idle log, in which the writes are persistent.
func (r region) newDevice(t *testing.T, lines int, ws ...mem.Write) *device.Device {
	t.Helper()
	d, err := device.New(lines)
	if err != api.OK {
		t.Fatal(err)
	}
	m := d.Thread(0)
	if err := redo.Format(m, r.line, r.lines); err != api.OK {
		t.Fatal(err)
	}
	if err := mem.Stores(ws).Run(m); err != api.OK || len(d.Dirty()) != 0 {
		t.Fatal(err, d.Dirty())
	}
	return d
}

// has reports whether the memory has the values of all the writes.
func has(m mem.Memory, ws []mem.Write) bool {
	for _, w := range ws {
		if m.Load(w.Off) != w.Value {
			return false
		}
	}
	return true
}

// images calls look with a device for each crash image of d.
func images(t *testing.T, d *device.Device, look func(after *device.Device)) {
	t.Helper()
	for i := range crashset.All(d, 1<<20) {
		after, err := i.Device()
		if err != api.OK {
			t.Fatal(err)
		}
		look(after)
	}
}

// cuts calls run on copies of d in which the power fails after each number n of instructions, and look with a device for each crash image; ended says whether run had ended. It returns the number of instructions of run.
func cuts(t *testing.T, d *device.Device, run func(m mem.Memory) api.Errno, look func(after *device.Device, n int, ended bool)) int {
	t.Helper()
	for n := 0; ; n++ {
		c := d.Copy()
		c.Arm(n)
		err := run(c.Thread(0))
		if c.Off() != (err == api.ErrOff) || !c.Off() && err != api.OK {
			t.Fatalf("cut at %d: %v", n, err)
		}
		images(t, c, func(after *device.Device) { look(after, n, !c.Off()) })
		if !c.Off() {
			return n
		}
	}
}

// recovers checks that Recover succeeds, and returns the number of writes.
func (r region) recovers(t *testing.T, d *device.Device) int {
	t.Helper()
	n, err := r.open(t, d.Thread(0)).Recover()
	if err != api.OK {
		t.Fatal(err)
	}
	r.is(t, d.Thread(0), redo.Idle)
	return n
}

// is checks the state of the log, and its writes.
func (r region) is(t *testing.T, m mem.Memory, want redo.State, ws ...mem.Write) {
	t.Helper()
	state, found := redo.Look(m, r.line, r.lines)
	if state != want || !slices.Equal(found, ws) {
		t.Fatalf("the log: %v, %v, want %v, %v", state, found, want, ws)
	}
}
