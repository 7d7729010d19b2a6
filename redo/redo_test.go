package redo_test

import (
	"math"
	"testing"

	"bedrock/api"
	"bedrock/device"
	"bedrock/mem"
	"bedrock/redo"
)

func TestConstants(t *testing.T) {
	if redo.MinLines != 26 || redo.Idle != 1 || redo.Committed != 2 || redo.Damaged != 3 {
		t.Error(redo.MinLines, redo.Idle, redo.Committed, redo.Damaged)
	}
}

// P15.1: Format makes any log idle, by its program.
func TestFormat(t *testing.T) {
	for _, r := range []region{{0, 26}, {3, 26}, {1, 30}, {0, 40}} {
		for _, commit := range []uint64{0, 1, 97, math.MaxUint64} {
			m := newRecorder(40)
			m.put(r, mem.Write{Off: 2560, Value: 7})
			m.words[r.offset(0)] = commit
			if err := redo.Format(m, r.line, r.lines); err != api.OK {
				t.Fatal(err)
			}
			sameProgram(t, "Format", m.program, storing(mem.Write{Off: r.offset(0)}))
			r.is(t, m, redo.Idle)
		}
	}
}

// P15.1: when Format has returned the log is idle in every image; before that it is what it was, or idle.
func TestFormatIsDurable(t *testing.T) {
	r := region{2, 26}
	ws := []mem.Write{{Off: 0, Value: 5}, {Off: 1800, Value: 6}}
	d := r.newDevice(t, 30)
	if err := r.committing(ws)[:7].Run(d.Thread(0)); err != api.OK {
		t.Fatal(err)
	}
	r.is(t, d.Thread(1), redo.Committed, ws...)
	seen := map[redo.State]bool{}
	n := cuts(t, d, func(m mem.Memory) api.Errno { return redo.Format(m, r.line, r.lines) }, func(after *device.Device, n int, ended bool) {
		state, _ := redo.Look(after.Thread(0), r.line, r.lines)
		if state == redo.Damaged || ended && state != redo.Idle {
			t.Error(n, state)
		}
		seen[state] = true
		want := 0
		if state == redo.Committed {
			want = 2
		}
		if n := r.recovers(t, after); n != want || has(after.Thread(0), ws) != (want == 2) {
			t.Error(n, want)
		}
	})
	if n != 3 || len(seen) != 2 {
		t.Error(n, seen)
	}
}

// P15.1: the lines that a memory must have.
func TestLines(t *testing.T) {
	sizes := []uint64{0, 1, 63, 64, 64 * 25, 64*26 - 1, 64 * 26, 64*26 + 63, 64 * 27, 64 * 40, 1 << 40, math.MaxUint64}
	numbers := []int{math.MinInt, math.MinInt + 26, -26, -1, 0, 1, 2, 13, 14, 15, 25, 26, 27, 39, 40, 41, 1 << 34, 1 << 57, 1<<58 - 27, 1<<58 - 26, 1 << 58, math.MaxInt - 26, math.MaxInt - 25, math.MaxInt}
	for _, size := range sizes {
		for _, line := range numbers {
			for _, lines := range numbers {
				possible := line >= 0 && lines >= 26 && uint64(lines) <= size/64 && uint64(line) <= size/64-uint64(lines)
				m := newRecorder(0)
				m.size = size
				l, err := redo.Open(m, line, lines)
				formatted := redo.Format(m, line, lines)
				program := m.program
				state, ws := redo.Look(m, line, lines)
				if !possible {
					if l != nil || err != api.ErrArg || formatted != api.ErrArg || state != 0 || len(ws) != 0 || m.count != 0 {
						t.Fatalf("%d bytes, %d, %d: %v, %v, %v, %v", size, line, lines, err, formatted, state, m.count)
					}
					continue
				}
				if l == nil || err != api.OK || formatted != api.OK || state != redo.Idle || len(ws) != 0 {
					t.Fatalf("%d bytes, %d, %d: %v, %v, %v", size, line, lines, err, formatted, state)
				}
				sameProgram(t, "Format", program, storing(mem.Write{Off: uint64(line) * 64}))
			}
		}
	}
}

// P15.1: Open does not access the memory, not even one with an error.
func TestOpenDoesNotAccess(t *testing.T) {
	for _, failed := range []api.Errno{api.OK, api.ErrOff, api.ErrRange} {
		m := newRecorder(30)
		m.err, m.failing = failed, 1
		m.put(region{2, 26}, mem.Write{Off: 3})
		region{2, 26}.open(t, m)
		if m.count != 0 || m.err != failed {
			t.Error(m.count, m.err)
		}
	}
	d, _ := device.New(26)
	d.Arm(0)
	l := region{0, 26}.open(t, d.Thread(0))
	if d.Thread(0).Err() != api.OK || d.Off() {
		t.Error(d.Thread(0).Err())
	}
	if err := l.Commit(nil); err != api.OK {
		t.Error(err)
	}
}

// Memories that have no lines.
func TestNoMemory(t *testing.T) {
	for _, m := range []mem.Memory{nil, (*device.Thread)(nil), mem.Over(nil), mem.Count(nil), (*mem.Overlay)(nil), (*mem.Meter)(nil)} {
		if err := redo.Format(m, 0, 26); err != api.ErrArg {
			t.Error("Format", err)
		}
		if l, err := redo.Open(m, 0, 26); l != nil || err != api.ErrArg {
			t.Error("Open", err)
		}
		if state, ws := redo.Look(m, 0, 26); state != 0 || len(ws) != 0 {
			t.Error("Look", state, ws)
		}
	}
}

// P15.1: the arguments of Format are checked before the memory's error.
func TestFormatWithAnError(t *testing.T) {
	for _, failed := range []api.Errno{api.ErrOff, api.ErrRange, api.ErrSum} {
		m := newRecorder(30)
		m.err = failed
		for _, r := range []region{{-1, 26}, {0, 25}, {5, 26}, {0, 31}} {
			if err := redo.Format(m, r.line, r.lines); err != api.ErrArg {
				t.Error(r, err)
			}
		}
		if err := redo.Format(m, 4, 26); err != failed || len(m.program) != 0 {
			t.Error(err)
		}
	}
	for failing := 1; failing <= 3; failing++ {
		m := newRecorder(30)
		m.failing = failing
		if err := redo.Format(m, 4, 26); err != api.ErrOff {
			t.Error(failing, err)
		}
	}
	d, _ := device.New(26)
	d.Thread(0).Store(3, 1)
	d.Thread(0).Store(0, 9)
	if err := redo.Format(d.Thread(0), 0, 26); err != api.ErrRange || d.Thread(1).Load(0) != 9 {
		t.Error(err)
	}
}

// A handle keeps the lines, not what is in them.
func TestHandlesOfOneLog(t *testing.T) {
	r := region{1, 26}
	d := r.newDevice(t, 30)
	first, second := r.open(t, d.Thread(0)), r.open(t, d.Thread(1))
	for i := range 4 {
		ws := []mem.Write{{Off: 8, Value: uint64(i)}, {Off: 1792, Value: uint64(i * i)}}
		if err := []*redo.Log{first, second}[i%2].Commit(ws); err != api.OK || !has(d.Thread(2), ws) {
			t.Error(i, err)
		}
	}
	if err := r.committing([]mem.Write{{Off: 0, Value: 9}})[:5].Run(d.Thread(3)); err != api.OK {
		t.Fatal(err)
	}
	if _, err := first.Plan(nil); err != api.ErrState {
		t.Error(err)
	}
	if n, err := second.Recover(); n != 1 || err != api.OK || d.Thread(2).Load(0) != 9 {
		t.Error(n, err)
	}
	if _, err := first.Plan(nil); err != api.OK {
		t.Error(err)
	}
}
