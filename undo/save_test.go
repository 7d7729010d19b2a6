package undo_test

import (
	"math"
	"slices"
	"testing"

	"bedrock/api"
	"bedrock/device"
	"bedrock/mem"
	"bedrock/undo"
)

// Example 1.
func TestExample(t *testing.T) {
	d := newDevice(t, 3, mem.Write{Off: 128, Value: 7})
	l := region{0, 2}.open(t, d.Thread(0))
	if l.Capacity() != 4 {
		t.Error(l.Capacity())
	}
	p, err := l.Plan([]uint64{128})
	if err != api.OK {
		t.Fatal(err)
	}
	sameProgram(t, "Plan", p, mem.Program{
		{Op: mem.StoreOp, Off: 64, Value: 128}, {Op: mem.StoreOp, Off: 72, Value: 7}, {Op: mem.FlushOp, Off: 64}, {Op: mem.FenceOp},
		{Op: mem.StoreOp, Off: 0, Value: 1}, {Op: mem.FlushOp, Off: 0}, {Op: mem.FenceOp},
	})
}

// unsaved returns the entries that Save appends, by their definition.
func unsaved(m *recorder, saved []mem.Write, offs []uint64) []mem.Write {
	var added []mem.Write
	for i, off := range offs {
		isSaved := slices.ContainsFunc(saved, func(w mem.Write) bool { return w.Off == off })
		if !isSaved && !slices.Contains(offs[:i], off) {
			added = append(added, mem.Write{Off: off, Value: m.words[off]})
		}
	}
	return added
}

// saves checks Plan and Save, given the saved words, and returns those that are saved then.
func saves(t *testing.T, m *recorder, r region, saved []mem.Write, offs []uint64) []mem.Write {
	t.Helper()
	l := r.open(t, m)
	before := slices.Clone(offs)
	added := unsaved(m, saved, offs)
	m.program = nil
	if len(saved)+len(added) > r.capacity() {
		refuses(t, m, l, offs, api.ErrFull)
		return saved
	}
	want := r.saving(len(saved), added...)
	for range 2 {
		p, err := l.Plan(offs)
		if err != api.OK {
			t.Fatal(err)
		}
		sameProgram(t, "Plan", p, want)
		clear(p[:cap(p)])
	}
	r.has(t, m, saved...)
	if err := l.Save(offs); err != api.OK {
		t.Fatal(err)
	}
	sameProgram(t, "Save", m.program, want)
	saved = append(saved, added...)
	r.has(t, m, saved...)
	if !slices.Equal(offs, before) {
		t.Fatal("the argument")
	}
	return saved
}

// P16.1 and P16.2: what is saved, and the programs, for logs that are filled and emptied again and again.
func TestSave(t *testing.T) {
	s := sequence(2)
	for _, r := range []region{{0, 2}, {5, 2}, {3, 4}, {0, 26}, {10, 30}} {
		m := newRecorder(50)
		all := r.words(50)
		var saved []mem.Write
		for range 400 {
			offs := s.choose(s.below(8), all[:1+s.below(len(all))])
			saved = saves(t, m, r, saved, offs)
			// The words change, whether they are saved or not.
			for range 5 {
				m.words[all[s.below(len(all))]] = s.next()
			}
			m.program = nil
			l := r.open(t, m)
			switch s.below(12 + 4*r.lines) {
			case 0:
				if err := l.Commit(); err != api.OK {
					t.Fatal(err)
				}
			case 1:
				if err := l.Rollback(); err != api.OK || !has(m, saved) {
					t.Fatal(err)
				}
			default:
				continue
			}
			saved = nil
			r.has(t, m)
		}
	}
}

// The capacity can be filled exactly, by one call or by many.
func TestFull(t *testing.T) {
	for _, r := range []region{{0, 2}, {2, 3}, {1, 25}} {
		all := r.words(40)
		n := r.capacity()
		m := newRecorder(40)
		saves(t, m, r, nil, all[:n])
		if _, err := r.open(t, m).Plan(all[:n]); err != api.OK {
			t.Error(err)
		}
		refuses(t, clean(m), r.open(t, m), all[n:n+1], api.ErrFull)
		refuses(t, clean(m), r.open(t, m), all[:n+1], api.ErrFull)
		m = newRecorder(40)
		refuses(t, m, r.open(t, m), all[:n+1], api.ErrFull)
		refuses(t, m, r.open(t, m), all, api.ErrFull)
		var saved []mem.Write
		for i := range n {
			saved = saves(t, m, r, saved, all[i:i+1])
		}
		refuses(t, clean(m), r.open(t, m), all[n:n+1], api.ErrFull)
		// Equal offsets need one entry.
		m = newRecorder(40)
		saves(t, m, r, nil, slices.Repeat(all[:1], 10*n))
	}
}

// clean forgets the program that m has executed.
func clean(m *recorder) *recorder {
	m.program = nil
	return m
}

// refuses checks the error of Plan and Save, which change nothing.
func refuses(t *testing.T, m *recorder, l *undo.Log, offs []uint64, want api.Errno) {
	t.Helper()
	saved := l.Saved()
	if p, err := l.Plan(offs); len(p) != 0 || err != want {
		t.Fatalf("Plan: %v, %v, want %v", p, err, want)
	}
	if err := l.Save(offs); err != want {
		t.Fatalf("Save: %v, want %v", err, want)
	}
	if len(m.program) != 0 || !slices.Equal(l.Saved(), saved) {
		t.Fatal("an effect", m.program)
	}
}

// The errors of Save, in their order.
func TestErrorsOfSave(t *testing.T) {
	r := region{2, 3}
	all := r.words(30)
	bad := []uint64{1, 4, 12, 127, 128, 136, 192, 256, 312, 319, 321, 1919, 1920, 1928, 1 << 40, 1 << 63, math.MaxUint64 - 7, math.MaxUint64}
	good := []uint64{0, 8, 120, 320, 328, 1912}
	for _, failed := range []api.Errno{api.OK, api.ErrOff, api.ErrRange, api.ErrSum} {
		for _, saved := range [][]mem.Write{nil, {{Off: 8, Value: 3}}, {{Off: 1}, {Off: 1928}, {Off: 128}}, make([]mem.Write, 8)} {
			m := newRecorder(30)
			m.put(r, saved...)
			m.err = failed
			l := r.open(t, m)
			for _, off := range bad {
				for _, n := range []int{1, 2, 8, 9, 100} {
					for _, at := range []int{0, n / 2, n - 1} {
						offs := slices.Clone(all[:n])
						offs[at] = off
						refuses(t, m, l, offs, api.ErrArg)
					}
				}
			}
			for _, offs := range [][]uint64{nil, good, all[:9], all} {
				if failed != api.OK {
					refuses(t, m, l, offs, failed)
				} else if len(offs) > 8 {
					refuses(t, m, l, offs, api.ErrFull)
				}
			}
		}
	}
	for _, off := range good {
		m := newRecorder(30)
		saves(t, m, r, nil, []uint64{off})
	}
}

// Nothing to save: the empty program.
func TestNothingToSave(t *testing.T) {
	r := region{0, 3}
	m := newRecorder(10)
	ws := []mem.Write{{Off: 200, Value: 1}, {Off: 208, Value: 2}}
	saved := [][][]uint64{
		{nil, {}},
		{nil, {200}, {200, 200}},
		{nil, {208}, {200, 208}, {208, 200, 208}},
	}
	for n, cases := range saved {
		m.put(r, ws[:n]...)
		for _, offs := range cases {
			if p, err := r.open(t, m).Plan(offs); len(p) != 0 || err != api.OK {
				t.Error(p, err)
			}
			if err := r.open(t, m).Save(offs); err != api.OK || len(m.program) != 0 {
				t.Error(err, m.program)
			}
		}
	}
}

// The saved value is the present one, also if it is not persistent.
func TestPresentValue(t *testing.T) {
	r := region{1, 2}
	d := newDevice(t, 5, mem.Write{Off: 192, Value: 1})
	d.Thread(1).Store(192, 2)
	if err := r.open(t, d.Thread(0)).Save([]uint64{192}); err != api.OK {
		t.Fatal(err)
	}
	d.Thread(1).Store(192, 3)
	images(t, d, func(after *device.Device) {
		r.recovers(t, after)
		if after.Thread(0).Load(192) != 2 {
			t.Error(after.Thread(0).Load(192))
		}
	})
}

// The last word of the largest memory, beyond all lines of int.
func TestFarOffsets(t *testing.T) {
	r := region{4, 3}
	m := newRecorder(0)
	m.size = math.MaxUint64
	offs := []uint64{math.MaxUint64 - 7, 1 << 63, 248}
	m.words[math.MaxUint64-7] = 6
	saved := saves(t, m, r, nil, offs)
	m.program = nil
	m.words[math.MaxUint64-7] = 7
	l := r.open(t, m)
	if p, err := l.PlanCommit(); err != api.OK {
		t.Error(err)
	} else {
		sameProgram(t, "PlanCommit", p, r.commits(saved...))
	}
	if n, err := l.Recover(); n != 3 || err != api.OK || m.words[math.MaxUint64-7] != 6 {
		t.Error(n, err)
	}
	sameProgram(t, "Recover", m.program, r.restores(saved...))
}

// A memory whose last line is not a whole one has words there that can be saved.
func TestPartOfALine(t *testing.T) {
	m := newRecorder(0)
	m.size = 5*64 + 16
	r := region{1, 4}
	for off, want := range map[uint64]api.Errno{0: api.OK, 56: api.OK, 64: api.ErrArg, 312: api.ErrArg, 320: api.OK, 328: api.OK, 336: api.ErrArg} {
		if _, err := r.open(t, m).Plan([]uint64{off}); err != want {
			t.Error(off, err, want)
		}
	}
	if _, err := undo.Open(m, 2, 4); err != api.ErrRange {
		t.Error(err)
	}
}

// calls are the methods that access the memory and return an error. They return ErrExists if they return something else than zero values together with an error.
var calls = []struct {
	name string
	run  func(l *undo.Log) api.Errno
}{
	{"Plan", func(l *undo.Log) api.Errno {
		p, err := l.Plan([]uint64{0, 8, 640})
		return checked(err, len(p) == 0)
	}},
	{"Plan of nothing", func(l *undo.Log) api.Errno {
		p, err := l.Plan(nil)
		return checked(err, len(p) == 0)
	}},
	{"Save", func(l *undo.Log) api.Errno { return l.Save([]uint64{0, 8, 640}) }},
	{"Save of nothing", func(l *undo.Log) api.Errno { return l.Save(nil) }},
	{"PlanCommit", func(l *undo.Log) api.Errno {
		p, err := l.PlanCommit()
		return checked(err, len(p) == 0)
	}},
	{"Commit", func(l *undo.Log) api.Errno { return l.Commit() }},
	{"Rollback", func(l *undo.Log) api.Errno { return l.Rollback() }},
	{"Recover", func(l *undo.Log) api.Errno {
		n, err := l.Recover()
		return checked(err, n == 0)
	}},
}

// checked returns the error of a call, given whether its other results are zero values.
func checked(err api.Errno, zero bool) api.Errno {
	if err != api.OK && !zero {
		return api.ErrExists
	}
	return err
}

// The memory's error, before and during a call.
func TestMemoryWithAnError(t *testing.T) {
	r := region{1, 3}
	some := newRecorder(12)
	some.put(r, mem.Write{Off: 8, Value: 3}, mem.Write{Off: 640, Value: 4}, mem.Write{Off: 3})
	skipped := newRecorder(12)
	skipped.put(r, mem.Write{Off: 3})
	for _, content := range []*recorder{newRecorder(12), some, skipped} {
		for _, c := range calls {
			for _, failed := range []api.Errno{api.ErrOff, api.ErrRange, api.ErrArg, api.ErrSum} {
				m := content.copy()
				m.err = failed
				if err := c.run(r.open(t, m)); err != failed || len(m.program) != 0 {
					t.Errorf("%s: %v, want %v", c.name, err, failed)
				}
			}
			whole := content.copy()
			if err := c.run(r.open(t, whole)); err != api.OK || whole.count == 0 {
				t.Error(c.name, err)
			}
			for failing := 1; failing <= whole.count; failing++ {
				m := content.copy()
				m.failing = failing
				if err := c.run(r.open(t, m)); err != api.ErrOff {
					t.Fatalf("%s, failing at %d of %d: %v", c.name, failing, whole.count, err)
				}
			}
		}
	}
	// A log that is full: the power fails before that is found.
	full := newRecorder(12)
	full.put(r, make([]mem.Write, 8)...)
	for failing := range 18 {
		m := full.copy()
		m.failing = failing
		want := api.ErrOff
		if failing == 0 {
			want = api.ErrFull
		}
		if err := r.open(t, m).Save([]uint64{640}); err != want {
			t.Error(failing, err)
		}
	}
}

// A device that is off, which its threads do not know yet.
func TestDeviceThatIsOff(t *testing.T) {
	r := region{1, 3}
	for _, c := range calls {
		d := newDevice(t, 12)
		l := r.open(t, d.Thread(0))
		if err := l.Save([]uint64{0}); err != api.OK {
			t.Fatal(err)
		}
		d.Arm(0)
		d.Thread(3).Fence()
		for range 2 {
			if err := c.run(l); err != api.ErrOff {
				t.Error(c.name, err)
			}
		}
	}
}

// A thread with an error executes later instructions, but no call does anything on it.
func TestThreadWithAnError(t *testing.T) {
	r := region{1, 3}
	for _, c := range calls {
		d := newDevice(t, 12)
		if err := r.open(t, d.Thread(0)).Save([]uint64{0}); err != api.OK {
			t.Fatal(err)
		}
		d.Thread(1).Load(3)
		before := d.Executed()
		if err := c.run(r.open(t, d.Thread(1))); err != api.ErrRange || d.Executed() != before {
			t.Error(c.name, err)
		}
	}
}

// The methods are not called on a nil Log; if they are, they return what nil receivers do in general.
func TestNilLog(t *testing.T) {
	var l *undo.Log
	for _, c := range calls {
		if err := c.run(l); err != api.ErrArg {
			t.Error(c.name, err)
		}
	}
	if l.Capacity() != 0 || len(l.Saved()) != 0 {
		t.Error(l.Capacity(), l.Saved())
	}
}
