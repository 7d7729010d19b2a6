package mem_test

import (
	"fmt"
	"slices"
	"testing"

	"bedrock/api"
	"bedrock/device"
	"bedrock/mem"
	"bedrock/sched"
)

// The memories and the machine that the chapters name.
var (
	_ mem.Memory    = (*device.Thread)(nil)
	_ mem.Memory    = (*mem.Overlay)(nil)
	_ mem.Memory    = (*mem.Meter)(nil)
	_ sched.Machine = (*mem.Stepper)(nil)
	_ device.Write  = mem.Write{Off: 8, Value: 1}
)

// recorder is a memory that has some values, size and error, and keeps a list of the calls. From the call number failing on, if that is not 0, its error is ErrOff.
type recorder struct {
	size    uint64
	err     api.Errno
	failing int
	calls   []string
}

func (r *recorder) add(format string, args ...any) {
	r.calls = append(r.calls, fmt.Sprintf(format, args...))
	if len(r.calls) == r.failing {
		r.err = api.ErrOff
	}
}

func (r *recorder) Load(off uint64) uint64 {
	r.add("load %d", off)
	return valueAt(off)
}

func (r *recorder) Store(off, v uint64) { r.add("store %d %d", off, v) }
func (r *recorder) Flush(off uint64)    { r.add("flush %d", off) }
func (r *recorder) Fence()              { r.add("fence") }
func (r *recorder) Size() uint64        { return r.size }
func (r *recorder) Err() api.Errno      { return r.err }

// valueAt is the value that a recorder's load of an offset returns.
func valueAt(off uint64) uint64 {
	return off*7 + 3
}

// check compares the calls since the last check.
func (r *recorder) check(t *testing.T, want ...string) {
	t.Helper()
	if !slices.Equal(r.calls, want) {
		t.Fatalf("the calls are %q, want %q", r.calls, want)
	}
	r.calls = nil
}

// sequence yields a fixed irregular sequence of numbers.
type sequence uint64

func (s *sequence) next() uint64 {
	x := *s
	x ^= x << 13
	x ^= x >> 7
	x ^= x << 17
	*s = x
	return uint64(x) * 0x2545f4914f6cdd1d
}

func (s *sequence) below(n int) int {
	return int(s.next() >> 33 % uint64(n))
}

// program returns up to 9 instructions on the first 4 lines, some with offsets that are not a word's, and fields that are not used set.
func (s *sequence) program() mem.Program {
	p := make(mem.Program, s.below(10))
	for k := range p {
		p[k] = mem.Instr{Op: mem.StoreOp + mem.Op(s.below(3)), Off: uint64(s.below(32)) * 8, Value: s.next()}
		if s.below(8) == 0 {
			p[k].Off += uint64(s.below(8))
		}
	}
	return p
}

// calls returns the calls by which a program is executed.
func calls(p mem.Program) []string {
	var l []string
	for _, i := range p {
		switch i.Op {
		case mem.StoreOp:
			l = append(l, fmt.Sprintf("store %d %d", i.Off, i.Value))
		case mem.FlushOp:
			l = append(l, fmt.Sprintf("flush %d", i.Off))
		case mem.FenceOp:
			l = append(l, "fence")
		default:
			l = append(l, "invalid")
		}
	}
	return l
}

// sameWrites compares writes.
func sameWrites(t *testing.T, what string, got, want []mem.Write) {
	t.Helper()
	if !slices.Equal(got, want) {
		t.Fatalf("%s: the writes are %v, want %v", what, got, want)
	}
}

// spoil overwrites a result: an object that shares its memory shows that.
func spoil[T any](l []T) {
	clear(l[:cap(l)])
}

// The chapter's examples.
func TestExamples(t *testing.T) {
	flush := func(off uint64) mem.Instr { return mem.Instr{Op: mem.FlushOp, Off: off} }
	store := func(off, v uint64) mem.Instr { return mem.Instr{Op: mem.StoreOp, Off: off, Value: v} }
	fence := mem.Instr{Op: mem.FenceOp}
	if p := mem.Persist(56, 2); !slices.Equal(p, mem.Program{flush(0), flush(64), fence}) {
		t.Error(p)
	}
	p := mem.Stores([]mem.Write{{Off: 8, Value: 1}, {Off: 0, Value: 2}})
	if !slices.Equal(p, mem.Program{store(8, 1), store(0, 2), flush(0), fence}) {
		t.Error(p)
	}
	d, _ := device.New(1)
	o := mem.Over(d.Thread(0))
	o.Store(0, 5)
	m := o.Mark()
	o.Store(0, 6)
	o.Store(8, 7)
	sameWrites(t, "before", o.Writes(), []mem.Write{{Off: 0, Value: 6}, {Off: 8, Value: 7}})
	if err := o.Rollback(m); err != api.OK {
		t.Error(err)
	}
	sameWrites(t, "after", o.Writes(), []mem.Write{{Off: 0, Value: 5}})
	if d.Thread(0).Load(0) != 0 || len(p) != 4 || len(p.Without(0)) != 3 {
		t.Error(d.Current(), p, p.Without(0))
	}
	s := mem.Step(d.Thread(0), p)
	for k, want := range []bool{false, false, false, true} {
		if s.Step() != want {
			t.Error("step", k)
		}
	}
}
