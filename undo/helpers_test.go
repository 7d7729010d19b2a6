package undo_test

import (
	"maps"
	"slices"
	"testing"

	"bedrock/api"
	"bedrock/crashset"
	"bedrock/device"
	"bedrock/mem"
	"bedrock/undo"
)

// sequence yields a fixed irregular sequence of numbers.
type sequence uint64

func (s *sequence) next() uint64 {
	x := *s
	x ^= x << 13
	x ^= x >> 7
	x ^= x << 17
	*s = x
	return uint64(x) * 0x2545f4914f6cdd1d
}

func (s *sequence) below(n int) int {
	return int(s.next() >> 33 % uint64(n))
}

// region is the lines of a log.
type region struct {
	line, lines int
}

// offset returns the offset of a word of the log.
func (r region) offset(word int) uint64 {
	return uint64(64*r.line + 8*word)
}

// words returns the offsets of the words of a memory of that many lines that are outside of the log.
func (r region) words(lines int) []uint64 {
	var offs []uint64
	for line := range lines {
		if line >= r.line && line < r.line+r.lines {
			continue
		}
		for word := range 8 {
			offs = append(offs, uint64(64*line+8*word))
		}
	}
	return offs
}

// choose returns n of the offsets, among which there can be equal ones.
func (s *sequence) choose(n int, offs []uint64) []uint64 {
	chosen := make([]uint64, n)
	for i := range chosen {
		chosen[i] = offs[s.below(len(offs))]
	}
	return chosen
}

// capacity returns the number of words that can be saved.
func (r region) capacity() int {
	return 4 * (r.lines - 1)
}

// storing returns the stores, a flush of each of their lines and a fence.
func storing(ws ...mem.Write) mem.Program {
	var p mem.Program
	lines := map[uint64]bool{}
	for _, w := range ws {
		p = append(p, mem.Instr{Op: mem.StoreOp, Off: w.Off, Value: w.Value})
		lines[w.Off/64*64] = true
	}
	for _, off := range slices.Sorted(maps.Keys(lines)) {
		p = append(p, mem.Instr{Op: mem.FlushOp, Off: off})
	}
	return append(p, mem.Instr{Op: mem.FenceOp})
}

// flushing returns a flush of each line of the words and a fence.
func flushing(ws ...mem.Write) mem.Program {
	p := storing(ws...)
	return slices.DeleteFunc(p, func(i mem.Instr) bool { return i.Op == mem.StoreOp })
}

// counting returns the program that changes the count.
func (r region) counting(n int) mem.Program {
	return storing(mem.Write{Off: r.offset(0), Value: uint64(n)})
}

// saving returns the program that saves the words when n are saved.
func (r region) saving(n int, ws ...mem.Write) mem.Program {
	if len(ws) == 0 {
		return nil
	}
	var entries []mem.Write
	for i, w := range ws {
		at := 8 + 2*(n+i)
		entries = append(entries, mem.Write{Off: r.offset(at), Value: w.Off}, mem.Write{Off: r.offset(at + 1), Value: w.Value})
	}
	return append(storing(entries...), r.counting(n+len(ws))...)
}

// commits returns the program of Commit for the entries.
func (r region) commits(ws ...mem.Write) mem.Program {
	return append(flushing(ws...), r.counting(0)...)
}

// restores returns the program of Rollback for the entries.
func (r region) restores(ws ...mem.Write) mem.Program {
	return append(storing(ws...), r.counting(0)...)
}

func sameProgram(t *testing.T, what string, got, want mem.Program) {
	t.Helper()
	if !slices.Equal(got, want) {
		t.Fatalf("%s: the program is %v, want %v", what, got, want)
	}
}

// recorder is a memory of any size that keeps the program that it has executed. From the instruction number failing on (loads count as well), if that is not 0, its error is ErrOff, and loads return 0.
type recorder struct {
	size    uint64
	err     api.Errno
	failing int
	count   int
	words   map[uint64]uint64
	program mem.Program
}

func newRecorder(lines int) *recorder {
	return &recorder{size: uint64(lines) * 64, words: map[uint64]uint64{}}
}

// put makes the entries the saved ones.
func (r *recorder) put(at region, ws ...mem.Write) {
	r.words[at.offset(0)] = uint64(len(ws))
	for i, w := range ws {
		r.words[at.offset(8+2*i)] = w.Off
		r.words[at.offset(9+2*i)] = w.Value
	}
}

func (r *recorder) copy() *recorder {
	c := *r
	c.words = maps.Clone(r.words)
	c.program = slices.Clone(r.program)
	return &c
}

func (r *recorder) tick() {
	r.count++
	if r.count == r.failing {
		r.err = api.ErrOff
	}
}

func (r *recorder) Load(off uint64) uint64 {
	r.tick()
	if r.err == api.ErrOff {
		return 0
	}
	return r.words[off]
}

func (r *recorder) Store(off, v uint64) {
	r.tick()
	r.words[off] = v
	r.program = append(r.program, mem.Instr{Op: mem.StoreOp, Off: off, Value: v})
}

func (r *recorder) Flush(off uint64) {
	r.tick()
	r.program = append(r.program, mem.Instr{Op: mem.FlushOp, Off: off})
}

func (r *recorder) Fence() {
	r.tick()
	r.program = append(r.program, mem.Instr{Op: mem.FenceOp})
}

func (r *recorder) Size() uint64   { return r.size }
func (r *recorder) Err() api.Errno { return r.err }

// open returns a handle.
func (r region) open(t *testing.T, m mem.Memory) *undo.Log {
	t.Helper()
	l, err := undo.Open(m, r.line, r.lines)
	if err != api.OK || l == nil {
		t.Fatal(l, err)
	}
	return l
}

// newDevice returns a device in which the writes are persistent.
func newDevice(t *testing.T, lines int, ws ...mem.Write) *device.Device {
	t.Helper()
	d, err := device.New(lines)
	if err != api.OK {
		t.Fatal(err)
	}
	if err := mem.Stores(ws).Run(d.Thread(0)); err != api.OK || len(d.Dirty()) != 0 {
		t.Fatal(err, d.Dirty())
	}
	return d
}

// has reports whether the memory has the values of all the writes.
func has(m mem.Memory, ws []mem.Write) bool {
	for _, w := range ws {
		if m.Load(w.Off) != w.Value {
			return false
		}
	}
	return true
}

// images calls look with a device for each crash image of d.
func images(t *testing.T, d *device.Device, look func(after *device.Device)) {
	t.Helper()
	for i := range crashset.All(d, 1<<20) {
		after, err := i.Device()
		if err != api.OK {
			t.Fatal(err)
		}
		look(after)
	}
}

// cuts calls run on copies of d in which the power fails after each number n of instructions, and look with a device for each crash image; ended says whether run had ended. It returns the number of instructions of run.
func cuts(t *testing.T, d *device.Device, run func(m mem.Memory) api.Errno, look func(after *device.Device, n int, ended bool)) int {
	t.Helper()
	for n := 0; ; n++ {
		c := d.Copy()
		c.Arm(n)
		err := run(c.Thread(0))
		if c.Off() != (err == api.ErrOff) || !c.Off() && err != api.OK {
			t.Fatalf("cut at %d: %v", n, err)
		}
		images(t, c, func(after *device.Device) { look(after, n, !c.Off()) })
		if !c.Off() {
			return n
		}
	}
}

// recovers checks that Recover empties the log and restores that many words.
func (r region) recovers(t *testing.T, d *device.Device) {
	t.Helper()
	want := len(undo.Look(d.Thread(0), r.line, r.lines))
	n, err := r.open(t, d.Thread(0)).Recover()
	if err != api.OK || n != want {
		t.Fatal(n, want, err)
	}
	r.has(t, d.Thread(0))
}

// has checks the saved words.
func (r region) has(t *testing.T, m mem.Memory, want ...mem.Write) {
	t.Helper()
	if found := undo.Look(m, r.line, r.lines); !slices.Equal(found, want) {
		t.Fatalf("Look: %v, want %v", found, want)
	}
	if found := r.open(t, m).Saved(); !slices.Equal(found, want) {
		t.Fatalf("Saved: %v, want %v", found, want)
	}
}
