package root_test

import (
	"encoding/binary"
	"maps"
	"slices"
	"testing"

	"bedrock/api"
	"bedrock/crashset"
	"bedrock/crc"
	"bedrock/device"
	"bedrock/mem"
	"bedrock/pptr"
	"bedrock/root"
)

// sequence yields a fixed irregular sequence of numbers.
type sequence uint64

func (s *sequence) next() uint64 {
	x := *s
	x ^= x << 13
	x ^= x >> 7
	x ^= x << 17
	*s = x
	return uint64(x) * 0x2545f4914f6cdd1d
}

func (s *sequence) below(n int) int {
	return int(s.next() >> 33 % uint64(n))
}

// entry is the words of an entry.
type entry [4]uint64

// entryOf returns the entry of any bytes as a name, as the chapter describes it.
func entryOf(name string, p pptr.Ptr) entry {
	var padded [16]byte
	copy(padded[:], name)
	return entry{binary.LittleEndian.Uint64(padded[:]), binary.LittleEndian.Uint64(padded[8:]), uint64(p), 1<<32 + uint64(crc.Sum(padded[:]))}
}

// pointer returns a pointer to the word with that number.
func pointer(n int) pptr.Ptr {
	p, err := pptr.Make(uint64(8*n), uint16(1+n%7), uint8(64+n%60))
	if err != api.OK {
		panic("no pointer")
	}
	return p
}

// recorder is a memory of any size that keeps the program that it has executed. From the instruction number failing on (loads count as well), if that is not 0, its error is ErrOff.
type recorder struct {
	size    uint64
	err     api.Errno
	failing int
	count   int
	words   map[uint64]uint64
	program mem.Program
}

// newRecorder returns a memory with a directory with the entries, from a line on.
func newRecorder(size uint64, line int, entries ...entry) *recorder {
	r := &recorder{size: size, words: map[uint64]uint64{}}
	for i, e := range entries {
		r.put(line, i, e)
	}
	return r
}

// put stores the words of an entry without recording that.
func (r *recorder) put(line, number int, e entry) {
	for i, w := range e {
		r.words[uint64(64*line+32*number+8*i)] = w
	}
}

func (r *recorder) copy() *recorder {
	c := *r
	c.words = maps.Clone(r.words)
	c.program = slices.Clone(r.program)
	return &c
}

func (r *recorder) tick() {
	r.count++
	if r.count == r.failing {
		r.err = api.ErrOff
	}
}

func (r *recorder) Load(off uint64) uint64 {
	r.tick()
	return r.words[off]
}

func (r *recorder) Store(off, v uint64) {
	r.tick()
	r.words[off] = v
	r.program = append(r.program, mem.Instr{Op: mem.StoreOp, Off: off, Value: v})
}

func (r *recorder) Flush(off uint64) {
	r.tick()
	r.program = append(r.program, mem.Instr{Op: mem.FlushOp, Off: off})
}

func (r *recorder) Fence() {
	r.tick()
	r.program = append(r.program, mem.Instr{Op: mem.FenceOp})
}

func (r *recorder) Size() uint64   { return r.size }
func (r *recorder) Err() api.Errno { return r.err }

// stores returns the program of the stores, a flush of a line and a fence.
func stores(line int, ws ...mem.Write) mem.Program {
	var p mem.Program
	for _, w := range ws {
		p = append(p, mem.Instr{Op: mem.StoreOp, Off: w.Off, Value: w.Value})
	}
	return append(p, mem.Instr{Op: mem.FlushOp, Off: uint64(64 * line)}, mem.Instr{Op: mem.FenceOp})
}

func sameProgram(t *testing.T, what string, got, want mem.Program) {
	t.Helper()
	if !slices.Equal(got, want) {
		t.Fatalf("%s: the program is %v, want %v", what, got, want)
	}
}

// mustOpen returns a handle.
func mustOpen(t *testing.T, m mem.Memory, line int) *root.Directory {
	t.Helper()
	d, err := root.Open(m, line)
	if err != api.OK || d == nil {
		t.Fatal(d, err)
	}
	return d
}

// mustSet sets a root.
func mustSet(t *testing.T, d *root.Directory, name string, p pptr.Ptr) {
	t.Helper()
	if err := d.Set(name, p); err != api.OK {
		t.Fatal(name, err)
	}
}

// newDirectory returns a device with a directory with the roots, in their order, from a line on.
func newDirectory(t *testing.T, lines, line int, names ...string) (*device.Device, *root.Directory) {
	t.Helper()
	v, err := device.New(lines)
	if err != api.OK {
		t.Fatal(err)
	}
	if err := root.Format(v.Thread(0), line); err != api.OK {
		t.Fatal(err)
	}
	d := mustOpen(t, v.Thread(0), line)
	for i, name := range names {
		mustSet(t, d, name, pointer(i+1))
	}
	return v, d
}

// content is a directory's roots.
type content map[string]pptr.Ptr

// contentOf returns what List lists.
func contentOf(t *testing.T, d *root.Directory) content {
	t.Helper()
	c := content{}
	last := ""
	for _, e := range d.List() {
		if e.Name <= last {
			t.Fatalf("%q is listed after %q", e.Name, last)
		}
		last = e.Name
		c[e.Name] = e.Ptr
	}
	return c
}

// with returns the content after a change.
func (c content) with(name string, p pptr.Ptr) content {
	n := maps.Clone(c)
	if p.Nil() {
		delete(n, name)
	} else {
		n[name] = p
	}
	return n
}

// images calls look with a device for each crash image of v.
func images(t *testing.T, v *device.Device, look func(after *device.Device)) {
	t.Helper()
	for i := range crashset.All(v, 1<<20) {
		after, err := i.Device()
		if err != api.OK {
			t.Fatal(err)
		}
		look(after)
	}
}

// cuts calls run on copies of v in which the power fails at each instruction, and look with a device for each crash image; ended says whether run had ended. It returns the number of instructions of run.
func cuts(t *testing.T, v *device.Device, run func(m mem.Memory) api.Errno, look func(after *device.Device, ended bool)) int {
	t.Helper()
	for n := 0; ; n++ {
		c := v.Copy()
		c.Arm(n)
		err := run(c.Thread(0))
		if c.Off() != (err == api.ErrOff) || !c.Off() && err != api.OK {
			t.Fatalf("cut at %d: %v", n, err)
		}
		images(t, c, func(after *device.Device) { look(after, !c.Off()) })
		if !c.Off() {
			return n
		}
	}
}
