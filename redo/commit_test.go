package redo_test

import (
	"math"
	"slices"
	"testing"

	"bedrock/api"
	"bedrock/mem"
	"bedrock/redo"
)

// Example 1, instruction by instruction.
func TestExample(t *testing.T) {
	r := region{10, 26}
	d := r.newDevice(t, 40)
	l := r.open(t, d.Thread(0))
	commit, _ := logOf([]mem.Write{{Off: 520, Value: 2}, {Off: 512, Value: 3}})
	want := mem.Program{
		{Op: mem.StoreOp, Off: 704, Value: 520}, {Op: mem.StoreOp, Off: 712, Value: 2},
		{Op: mem.StoreOp, Off: 720, Value: 512}, {Op: mem.StoreOp, Off: 728, Value: 3},
		{Op: mem.FlushOp, Off: 704}, {Op: mem.FenceOp},
		{Op: mem.StoreOp, Off: 640, Value: commit}, {Op: mem.FlushOp, Off: 640}, {Op: mem.FenceOp},
		{Op: mem.StoreOp, Off: 520, Value: 2}, {Op: mem.StoreOp, Off: 512, Value: 3}, {Op: mem.FlushOp, Off: 512}, {Op: mem.FenceOp},
		{Op: mem.StoreOp, Off: 640, Value: 0}, {Op: mem.FlushOp, Off: 640}, {Op: mem.FenceOp},
	}
	p, err := l.Plan([]mem.Write{{Off: 512, Value: 1}, {Off: 520, Value: 2}, {Off: 512, Value: 3}})
	if err != api.OK || len(p) != 16 || p.Fences() != 4 {
		t.Fatal(len(p), p.Fences(), err)
	}
	sameProgram(t, "Plan", p, want)
	if commit&math.MaxUint32 != 2 {
		t.Error(commit)
	}
}

// P15.2 and P15.3: Plan returns the program, and Commit executes it.
func TestPlan(t *testing.T) {
	s := sequence(2)
	for _, r := range []region{{0, 26}, {7, 26}, {10, 30}, {3, 40}} {
		offs := r.words(50)
		for n := range 150 {
			given := s.choose(n, offs[:1+s.below(len(offs))])
			ws := lastOnes(given)
			if len(ws) > api.MaxWrites {
				continue
			}
			before := slices.Clone(given)
			m := newRecorder(50)
			l := r.open(t, m)
			want := r.committing(ws)
			for range 2 {
				p, err := l.Plan(given)
				if err != api.OK {
					t.Fatal(n, err)
				}
				sameProgram(t, "Plan", p, want)
				clear(p[:cap(p)])
			}
			if len(m.program) != 0 || !slices.Equal(given, before) {
				t.Fatal("Plan has an effect", m.program)
			}
			if err := l.Commit(given); err != api.OK {
				t.Fatal(n, err)
			}
			sameProgram(t, "Commit", m.program, want)
			if !has(m, ws) || !slices.Equal(given, before) {
				t.Fatal("the values")
			}
			r.is(t, m, redo.Idle)
		}
	}
}

// P15.2: of equal offsets the last write counts, and it keeps its place.
func TestEqualOffsets(t *testing.T) {
	r := region{1, 26}
	a, b, c := uint64(0), uint64(27*64), uint64(28*64)
	write := func(off, value uint64) mem.Write { return mem.Write{Off: off, Value: value} }
	cases := []struct{ given, want []mem.Write }{
		{[]mem.Write{write(a, 1), write(a, 1)}, []mem.Write{write(a, 1)}},
		{[]mem.Write{write(a, 1), write(b, 2), write(a, 0)}, []mem.Write{write(b, 2), write(a, 0)}},
		{[]mem.Write{write(c, 1), write(b, 2), write(a, 3), write(b, 4), write(c, 5)}, []mem.Write{write(a, 3), write(b, 4), write(c, 5)}},
		{[]mem.Write{write(c, 1), write(b, 1), write(a, 1)}, []mem.Write{write(c, 1), write(b, 1), write(a, 1)}},
	}
	for _, x := range cases {
		m := newRecorder(30)
		p, err := r.open(t, m).Plan(x.given)
		if err != api.OK {
			t.Fatal(err)
		}
		sameProgram(t, "Plan", p, r.committing(x.want))
	}
	// A value that is the old one is written as well.
	m := newRecorder(30)
	p, err := r.open(t, m).Plan([]mem.Write{{Off: 8}})
	if err != api.OK || len(p) != 13 {
		t.Error(len(p), err)
	}
}

// No writes: the empty program.
func TestNoWrites(t *testing.T) {
	m := newRecorder(30)
	l := region{0, 26}.open(t, m)
	for _, ws := range [][]mem.Write{nil, {}} {
		if p, err := l.Plan(ws); len(p) != 0 || err != api.OK {
			t.Error(p, err)
		}
		if err := l.Commit(ws); err != api.OK || len(m.program) != 0 {
			t.Error(err, m.program)
		}
	}
}

// refuses checks the error of Plan and Commit, which change nothing.
func refuses(t *testing.T, m *recorder, l *redo.Log, ws []mem.Write, want api.Errno) {
	t.Helper()
	if p, err := l.Plan(ws); len(p) != 0 || err != want {
		t.Fatalf("Plan: %v, %v, want %v", p, err, want)
	}
	if err := l.Commit(ws); err != want {
		t.Fatalf("Commit: %v, want %v", err, want)
	}
	if len(m.program) != 0 {
		t.Fatal("an effect", m.program)
	}
}

// P15.2: the errors, in their order.
func TestErrorsOfPlan(t *testing.T) {
	r := region{2, 26}
	offs := r.words(60)
	many := func(n int) []mem.Write {
		var ws []mem.Write
		for i := range n {
			ws = append(ws, mem.Write{Off: offs[i], Value: uint64(i)})
		}
		return ws
	}
	bad := []uint64{1, 4, 12, 128, 136, 1784, 1791, 3840, 3841, 3848, 1 << 40, 1 << 63, math.MaxUint64, math.MaxUint64 - 7}
	for _, failed := range []api.Errno{api.OK, api.ErrOff, api.ErrRange, api.ErrSum} {
		for _, commit := range []uint64{0, 1, 1 << 40, math.MaxUint64} {
			m := newRecorder(60)
			m.words[r.offset(0)] = commit
			m.err = failed
			l := r.open(t, m)
			for _, off := range bad {
				for _, n := range []int{1, 2, 96, 97, 98, 200} {
					for _, at := range []int{0, n / 2, n - 1} {
						ws := many(n)
						ws[at].Off = off
						refuses(t, m, l, ws, api.ErrArg)
					}
				}
				// Also if a later write has the same offset.
				refuses(t, m, l, []mem.Write{{Off: off}, {Off: 0}, {Off: off}}, api.ErrArg)
			}
			refuses(t, m, l, many(97), api.ErrLimit)
			refuses(t, m, l, append(many(97), many(97)...), api.ErrLimit)
			refuses(t, m, l, many(250), api.ErrLimit)
			allowed := [][]mem.Write{nil, many(1), many(96), append(many(96), many(96)...)}
			for _, ws := range allowed {
				want := failed
				if failed == api.OK && commit != 0 {
					want = api.ErrState
				}
				if want != api.OK {
					refuses(t, m, l, ws, want)
					continue
				}
				if err := l.Commit(ws); err != api.OK {
					t.Fatal(len(ws), err)
				}
				m.program = nil
			}
		}
	}
}

// P15.2: a log that is committed or damaged is not idle.
func TestStateOfPlan(t *testing.T) {
	r := region{0, 26}
	m := newRecorder(30)
	m.put(r, mem.Write{Off: 26 * 64, Value: 1})
	l := r.open(t, m)
	refuses(t, m, l, []mem.Write{{Off: 26 * 64, Value: 1}}, api.ErrState)
	refuses(t, m, l, nil, api.ErrState)
	m.words[0]++
	refuses(t, m, l, nil, api.ErrState)
	if _, err := l.Recover(); err != api.ErrSum {
		t.Error(err)
	}
	refuses(t, m, l, nil, api.ErrState)
	if err := redo.Format(m, 0, 26); err != api.OK {
		t.Error(err)
	}
	if err := l.Commit([]mem.Write{{Off: 26 * 64, Value: 2}}); err != api.OK || m.words[26*64] != 2 {
		t.Error(err)
	}
}

// calls are the methods that access the memory. They return ErrExists if they return something else than zero values together with an error.
var calls = []struct {
	name string
	run  func(l *redo.Log) api.Errno
}{
	{"Plan", func(l *redo.Log) api.Errno {
		p, err := l.Plan([]mem.Write{{Off: 0, Value: 1}, {Off: 64 * 27, Value: 2}})
		return checked(err, len(p) == 0)
	}},
	{"Plan of nothing", func(l *redo.Log) api.Errno {
		p, err := l.Plan(nil)
		return checked(err, len(p) == 0)
	}},
	{"Commit", func(l *redo.Log) api.Errno {
		return l.Commit([]mem.Write{{Off: 0, Value: 1}, {Off: 64 * 27, Value: 2}})
	}},
	{"Commit of nothing", func(l *redo.Log) api.Errno { return l.Commit(nil) }},
	{"Recover", func(l *redo.Log) api.Errno {
		n, err := l.Recover()
		return checked(err, n == 0)
	}},
}

// checked returns the error of a call, given whether its other results are zero values.
func checked(err api.Errno, zero bool) api.Errno {
	if err != api.OK && !zero {
		return api.ErrExists
	}
	return err
}

// The memory's error, before and during a call.
func TestMemoryWithAnError(t *testing.T) {
	r := region{1, 26}
	idle := newRecorder(30)
	committed := newRecorder(30)
	committed.put(r, mem.Write{Off: 0, Value: 3}, mem.Write{Off: 1728, Value: 4})
	damaged := newRecorder(30)
	damaged.words[64] = 1
	for _, content := range []*recorder{idle, committed, damaged} {
		for _, c := range calls {
			for _, failed := range []api.Errno{api.ErrOff, api.ErrRange, api.ErrArg, api.ErrSum} {
				m := content.copy()
				m.err = failed
				if err := c.run(r.open(t, m)); err != failed || len(m.program) != 0 {
					t.Errorf("%s: %v, want %v", c.name, err, failed)
				}
			}
			whole := content.copy()
			c.run(r.open(t, whole))
			if whole.count == 0 {
				t.Error(c.name, "does not access the memory")
			}
			for failing := 1; failing <= whole.count; failing++ {
				m := content.copy()
				m.failing = failing
				if err := c.run(r.open(t, m)); err != api.ErrOff {
					t.Fatalf("%s, failing at %d of %d: %v", c.name, failing, whole.count, err)
				}
			}
		}
	}
}

// A device that is off, which its threads do not know yet.
func TestDeviceThatIsOff(t *testing.T) {
	r := region{1, 26}
	for _, c := range calls {
		d := r.newDevice(t, 30)
		l := r.open(t, d.Thread(0))
		d.Arm(0)
		d.Thread(3).Fence()
		for range 2 {
			if err := c.run(l); err != api.ErrOff {
				t.Error(c.name, err)
			}
		}
		if err := redo.Format(d.Thread(1), 1, 26); err != api.ErrOff {
			t.Error(err)
		}
	}
}

func TestNilLog(t *testing.T) {
	var l *redo.Log
	for _, c := range calls {
		if err := c.run(l); err != api.ErrArg {
			t.Error(c.name, err)
		}
	}
	if _, err := l.Plan([]mem.Write{{Off: 3}}); err != api.ErrArg {
		t.Error(err)
	}
}
