package undo_test

import (
	"math"
	"slices"
	"testing"

	"bedrock/api"
	"bedrock/device"
	"bedrock/mem"
	"bedrock/undo"
)

// The regions that a memory can have.
func TestOpen(t *testing.T) {
	sizes := []uint64{0, 1, 63, 64, 127, 128, 129, 191, 192, 64 * 40, 1 << 40, math.MaxUint64}
	numbers := []int{math.MinInt, math.MinInt + 2, -2, -1, 0, 1, 2, 3, 38, 39, 40, 41, 1 << 34, 1 << 57, 1<<58 - 2, 1<<58 - 1, 1 << 58, math.MaxInt - 1, math.MaxInt}
	for _, size := range sizes {
		for _, line := range numbers {
			for _, lines := range numbers {
				want := api.OK
				if line < 0 || lines < 2 {
					want = api.ErrArg
				} else if uint64(lines) > size/64 || uint64(line) > size/64-uint64(lines) {
					want = api.ErrRange
				}
				m := newRecorder(0)
				m.size = size
				l, err := undo.Open(m, line, lines)
				if err != want || (l != nil) != (want == api.OK) || m.count != 0 {
					t.Fatalf("%d bytes, %d, %d: %v, want %v", size, line, lines, err, want)
				}
				if want == api.OK && l.Capacity() != 4*(lines-1) {
					t.Fatalf("%d lines have the capacity %d", lines, l.Capacity())
				}
				found := undo.Look(m, line, lines)
				if len(found) != 0 || (m.count != 0) != (want == api.OK) {
					t.Fatalf("%d bytes, %d, %d: %v", size, line, lines, found)
				}
			}
		}
	}
}

// Open does not access the memory, not even one with an error.
func TestOpenDoesNotAccess(t *testing.T) {
	for _, failed := range []api.Errno{api.OK, api.ErrOff, api.ErrRange} {
		m := newRecorder(30)
		m.err, m.failing = failed, 1
		m.put(region{2, 3}, mem.Write{Off: 3})
		if l := (region{2, 3}).open(t, m); l.Capacity() != 8 || m.count != 0 || m.err != failed {
			t.Error(l.Capacity(), m.count, m.err)
		}
		if l, err := undo.Open(m, 29, 2); l != nil || err != api.ErrRange {
			t.Error(err)
		}
	}
}

// Memories that have no lines.
func TestNoMemory(t *testing.T) {
	if l, err := undo.Open(nil, 0, 2); l != nil || err != api.ErrArg {
		t.Error(err)
	}
	if ws := undo.Look(nil, 0, 2); len(ws) != 0 {
		t.Error(ws)
	}
	for _, m := range []mem.Memory{(*device.Thread)(nil), mem.Over(nil), mem.Count(nil), (*mem.Overlay)(nil), (*mem.Meter)(nil)} {
		if l, err := undo.Open(m, 0, 2); l != nil || err != api.ErrRange {
			t.Error(err)
		}
		if l, err := undo.Open(m, -1, 2); l != nil || err != api.ErrArg {
			t.Error(err)
		}
		if l, err := undo.Open(m, 0, 1); l != nil || err != api.ErrArg {
			t.Error(err)
		}
		if ws := undo.Look(m, 0, 2); len(ws) != 0 {
			t.Error(ws)
		}
	}
}

// A region of zeros is an empty log.
func TestZeros(t *testing.T) {
	r := region{0, 2}
	d := newDevice(t, 3)
	l := r.open(t, d.Thread(0))
	r.has(t, d.Thread(0))
	if n, err := l.Recover(); n != 0 || err != api.OK {
		t.Error(n, err)
	}
	if err := l.Commit(); err != api.OK {
		t.Error(err)
	}
	if err := l.Rollback(); err != api.OK {
		t.Error(err)
	}
	if d.Executed() != 0 {
		t.Error(d.Executed())
	}
}

// Saved and Look return the entries up to the count, whatever they are.
func TestSaved(t *testing.T) {
	s := sequence(1)
	for _, r := range []region{{0, 2}, {3, 5}, {7, 26}} {
		for n := range r.capacity() + 1 {
			m := newRecorder(40)
			for word := range 8 * r.lines {
				m.words[r.offset(word)] = s.next()
			}
			var ws []mem.Write
			for i := range n {
				ws = append(ws, mem.Write{Off: []uint64{s.next(), 5, 0, r.offset(3), 5000, 64}[s.below(6)], Value: s.next() % uint64(2+i)})
			}
			m.put(r, ws...)
			r.has(t, m, ws...)
			first := undo.Look(m, r.line, r.lines)
			clear(first)
			clear(r.open(t, m).Saved())
			r.has(t, m, ws...)
			if len(m.program) != 0 {
				t.Fatal("a change")
			}
		}
	}
}

// A count greater than the capacity counts as 0.
func TestLargeCount(t *testing.T) {
	r := region{1, 3}
	for _, n := range []uint64{9, 10, 12, 1 << 31, 1 << 32, 1<<32 + 1, 1 << 62, 1 << 63, 1<<63 + 8, math.MaxUint64 - 7, math.MaxUint64} {
		m := newRecorder(10)
		m.put(r, slices.Repeat([]mem.Write{{Off: 0, Value: 7}}, 8)...)
		r.has(t, m, slices.Repeat([]mem.Write{{Off: 0, Value: 7}}, 8)...)
		m.words[r.offset(0)] = n
		r.has(t, m)
		l := r.open(t, m)
		if p, err := l.PlanCommit(); len(p) != 0 || err != api.OK {
			t.Error(n, p, err)
		}
		if err := l.Commit(); err != api.OK {
			t.Error(n, err)
		}
		if err := l.Rollback(); err != api.OK {
			t.Error(n, err)
		}
		if n, err := l.Recover(); n != 0 || err != api.OK {
			t.Error(n, err)
		}
		if p, err := l.Plan(nil); len(p) != 0 || err != api.OK {
			t.Error(n, p, err)
		}
		if len(m.program) != 0 || m.words[r.offset(0)] != n {
			t.Error("a change", m.program)
		}
		// The next word is saved as the first one.
		m.words[0] = 3
		if err := l.Save([]uint64{0}); err != api.OK {
			t.Error(err)
		}
		sameProgram(t, "Save", m.program, r.saving(0, mem.Write{Off: 0, Value: 3}))
		r.has(t, m, mem.Write{Off: 0, Value: 3})
	}
}

// With an error of the memory Saved and Look return what the loads give.
func TestSavedWithAnError(t *testing.T) {
	r := region{1, 3}
	ws := []mem.Write{{Off: 0, Value: 1}, {Off: 8, Value: 2}}
	d := newDevice(t, 10, ws...)
	if err := r.open(t, d.Thread(0)).Save([]uint64{0, 8}); err != api.OK {
		t.Fatal(err)
	}
	d.Thread(1).Load(3)
	if d.Thread(1).Err() != api.ErrRange {
		t.Fatal(d.Thread(1).Err())
	}
	r.has(t, d.Thread(1), ws...)
	d.Arm(0)
	d.Thread(2).Fence()
	r.has(t, d.Thread(1))
	m := newRecorder(10)
	m.put(r, ws...)
	m.failing = 4
	if found := undo.Look(m, 1, 3); !slices.Equal(found, []mem.Write{{Off: 0, Value: 1}, {}}) {
		t.Error(found)
	}
}

// Two handles of a region are equivalent.
func TestHandlesOfOneRegion(t *testing.T) {
	r := region{0, 2}
	d := newDevice(t, 4)
	first, second := r.open(t, d.Thread(0)), r.open(t, d.Thread(1))
	if err := first.Save([]uint64{128}); err != api.OK {
		t.Fatal(err)
	}
	d.Thread(0).Store(128, 1)
	if err := second.Save([]uint64{128, 136}); err != api.OK {
		t.Fatal(err)
	}
	d.Thread(0).Store(136, 2)
	r.has(t, d.Thread(2), mem.Write{Off: 128}, mem.Write{Off: 136})
	if n, err := first.Recover(); n != 2 || err != api.OK || d.Thread(3).Load(128) != 0 || d.Thread(3).Load(136) != 0 {
		t.Error(n, err)
	}
	if n, err := second.Recover(); n != 0 || err != api.OK {
		t.Error(n, err)
	}
}
