package undo_test

import (
	"maps"
	"slices"
	"testing"

	"bedrock/api"
	"bedrock/device"
	"bedrock/mem"
	"bedrock/undo"
)

// work is the life of a log: the offsets that are saved one after another, and how often the words are stored to then.
type work struct {
	saves  [][]uint64
	stores int
}

// The words are those of a memory of 12 lines with a log of the lines 4 to 6.
var works = []work{
	{[][]uint64{{0}}, 1},
	{[][]uint64{{0, 8}}, 1},
	{[][]uint64{{448, 0}}, 2},
	{[][]uint64{{8}, {448, 8, 0}}, 1},
	{[][]uint64{{0, 64, 448, 512, 8}}, 1},
	{[][]uint64{{0}, {8}, {16}, {24}, {448}}, 1},
}

var logged = region{4, 3}

// words returns all offsets, each once.
func (w work) words() []uint64 {
	var offs []uint64
	for _, some := range w.saves {
		offs = append(offs, some...)
	}
	slices.Sort(offs)
	return slices.Compact(offs)
}

// before returns the values that the words have at the beginning.
func (w work) before() []mem.Write {
	var ws []mem.Write
	for _, off := range w.words() {
		ws = append(ws, mem.Write{Off: off, Value: 1000 + off})
	}
	return ws
}

// after returns the values that the words get at last.
func (w work) after() []mem.Write {
	var ws []mem.Write
	for _, off := range w.words() {
		ws = append(ws, mem.Write{Off: off, Value: uint64(w.stores)})
	}
	return ws
}

// change saves the words and stores to them.
func (w work) change(t *testing.T, m mem.Memory) api.Errno {
	t.Helper()
	l := logged.open(t, m)
	for _, offs := range w.saves {
		if err := l.Save(offs); err != api.OK {
			return err
		}
		for i := range w.stores {
			for _, off := range offs {
				m.Store(off, uint64(i+1))
			}
		}
	}
	return m.Err()
}

// sizeOf returns the number of instructions that change executes.
func (w work) sizeOf(t *testing.T, d *device.Device) int {
	t.Helper()
	c := d.Copy()
	before := c.Executed()
	if err := w.change(t, c.Thread(0)); err != api.OK {
		t.Fatal(err)
	}
	return int(c.Executed() - before)
}

// P16.3: until Commit begins every image is restored to the saved values; when it has returned every image has the new ones; in between one of the two.
func TestCommitIsAtomic(t *testing.T) {
	for i, w := range works {
		d := newDevice(t, 12, w.before()...)
		changing := w.sizeOf(t, d)
		run := func(m mem.Memory) api.Errno {
			if err := w.change(t, m); err != api.OK {
				return err
			}
			return logged.open(t, m).Commit()
		}
		seen := map[bool]int{}
		n := cuts(t, d, run, func(after *device.Device, n int, ended bool) {
			if ended {
				logged.has(t, after.Thread(0))
			}
			logged.recovers(t, after)
			isNew := has(after.Thread(0), w.after())
			if !isNew && !has(after.Thread(0), w.before()) {
				t.Fatalf("case %d, cut at %d: a part of the words", i, n)
			}
			if isNew && n <= changing || !isNew && ended {
				t.Fatalf("case %d, cut at %d: new values: %v", i, n, isNew)
			}
			seen[isNew]++
			// What is found is persistent, and the log can be used.
			after = after.Crash(nil)
			logged.recovers(t, after)
			if has(after.Thread(0), w.after()) != isNew {
				t.Fatalf("case %d, cut at %d: not durable", i, n)
			}
			if err := w.change(t, after.Thread(0)); err != api.OK {
				t.Fatal(err)
			}
			if err := logged.open(t, after.Thread(0)).Commit(); err != api.OK || !has(after.Crash(nil).Thread(0), w.after()) {
				t.Fatal(err)
			}
		})
		if n <= changing || seen[false] == 0 || seen[true] == 0 {
			t.Error(i, n, seen)
		}
	}
}

// P16.1: a Save that is cut has saved its words or not, and the saved ones before it stay saved.
func TestSaveIsAtomic(t *testing.T) {
	for i, w := range works {
		d := newDevice(t, 12, w.before()...)
		first := []uint64{704, 712}
		if err := logged.open(t, d.Thread(0)).Save(first); err != api.OK {
			t.Fatal(err)
		}
		before := undo.Look(d.Thread(0), logged.line, logged.lines)
		offs := w.saves[0]
		c := d.Copy()
		if err := logged.open(t, c.Thread(0)).Save(offs); err != api.OK {
			t.Fatal(err)
		}
		after := undo.Look(c.Thread(0), logged.line, logged.lines)
		seen := map[int]bool{}
		cuts(t, d, func(m mem.Memory) api.Errno { return logged.open(t, m).Save(offs) }, func(found *device.Device, n int, ended bool) {
			saved := undo.Look(found.Thread(0), logged.line, logged.lines)
			if !slices.Equal(saved, after) && (ended || !slices.Equal(saved, before)) {
				t.Fatalf("case %d, cut at %d: %v", i, n, saved)
			}
			seen[len(saved)] = true
			logged.recovers(t, found)
			if !has(found.Thread(0), w.before()) {
				t.Fatalf("case %d, cut at %d: other values", i, n)
			}
		})
		if len(seen) != 2 || len(before) != 2 || len(after) != 2+len(offs) {
			t.Error(i, seen)
		}
	}
}

// P16.3: after any stores to the saved words, and any number of them, an image is restored.
func TestAnyStores(t *testing.T) {
	s := sequence(5)
	offs := []uint64{0, 8, 64, 448}
	for range 200 {
		var before []mem.Write
		for _, off := range offs {
			before = append(before, mem.Write{Off: off, Value: s.next()})
		}
		d := newDevice(t, 12, before...)
		if err := logged.open(t, d.Thread(0)).Save(offs); err != api.OK {
			t.Fatal(err)
		}
		for range 8 {
			m := d.Thread(s.below(8))
			m.Store(offs[s.below(4)], s.next())
			if s.below(3) == 0 {
				m.Flush(offs[s.below(4)])
			}
			if s.below(3) == 0 {
				m.Fence()
			}
		}
		images(t, d, func(after *device.Device) {
			logged.recovers(t, after)
			if !has(after.Thread(0), before) {
				t.Fatal("other values")
			}
		})
	}
}

// P16.4: Recover and Rollback can be cut and repeated, in every image.
func TestRecoverIsRepeated(t *testing.T) {
	recover := func(m mem.Memory) api.Errno {
		_, err := logged.open(t, m).Recover()
		return err
	}
	for _, w := range works[:4] {
		d := newDevice(t, 12, w.before()...)
		if err := w.change(t, d.Thread(0)); err != api.OK {
			t.Fatal(err)
		}
		rollback := func(m mem.Memory) api.Errno { return logged.open(t, m).Rollback() }
		check := func(after *device.Device) {
			logged.recovers(t, after)
			if !has(after.Thread(0), w.before()) || !has(after.Crash(nil).Thread(0), w.before()) {
				t.Fatal("other values")
			}
		}
		looked := 0
		cuts(t, d, rollback, func(after *device.Device, _ int, ended bool) {
			if ended {
				logged.has(t, after.Thread(0))
				if !has(after.Thread(0), w.before()) {
					t.Fatal("not durable")
				}
			}
			cuts(t, after, recover, func(again *device.Device, _ int, ended bool) {
				looked++
				if ended {
					logged.has(t, again.Thread(0))
				}
				check(again.Copy())
				cuts(t, again, recover, func(third *device.Device, _ int, _ bool) { check(third) })
			})
			check(after)
		})
		if looked == 0 {
			t.Error("nothing")
		}
	}
}

// Without any one of the four fences of Save and Commit there is an image that shows it.
func TestEachFenceIsNeeded(t *testing.T) {
	for _, offs := range [][]uint64{{0, 448}, {448, 0, 64}} {
		w := work{[][]uint64{offs}, 1}
		d := newDevice(t, 12, w.before()...)
		whole := programOf(t, d, w)
		if whole.Fences() != 4 {
			t.Fatal(whole)
		}
		for fence := -1; fence < 4; fence++ {
			bad := 0
			cuts(t, d, whole.Without(fence).Run, func(after *device.Device, _ int, ended bool) {
				saved := undo.Look(after.Thread(0), logged.line, logged.lines)
				_, err := logged.open(t, after.Thread(0)).Recover()
				isNew := has(after.Thread(0), w.after())
				if err != api.OK || !isNew && !has(after.Thread(0), w.before()) || ended && (!isNew || len(saved) != 0) {
					bad++
				}
			})
			if (bad == 0) != (fence == -1) {
				t.Errorf("%v without the fence %d: %d", offs, fence, bad)
			}
		}
	}
}

// programOf returns the program of a Save, the stores and a Commit.
func programOf(t *testing.T, d *device.Device, w work) mem.Program {
	t.Helper()
	c := d.Copy()
	l := logged.open(t, c.Thread(0))
	p, err := l.Plan(w.saves[0])
	if err != api.OK {
		t.Fatal(err)
	}
	for _, ws := range w.after() {
		p = append(p, mem.Instr{Op: mem.StoreOp, Off: ws.Off, Value: ws.Value})
	}
	if err := p.Run(c.Thread(0)); err != api.OK {
		t.Fatal(err)
	}
	commit, err := l.PlanCommit()
	if err != api.OK {
		t.Fatal(err)
	}
	return p.Then(commit)
}

// A log over an overlay.
func TestOverlay(t *testing.T) {
	d := newDevice(t, 12, mem.Write{Off: 0, Value: 5})
	o := mem.Over(d.Thread(0))
	l := logged.open(t, o)
	if err := l.Save([]uint64{0, 8}); err != api.OK {
		t.Fatal(err)
	}
	o.Store(0, 6)
	logged.has(t, o, mem.Write{Off: 0, Value: 5}, mem.Write{Off: 8})
	logged.has(t, d.Thread(0))
	if n, err := l.Recover(); n != 2 || err != api.OK || o.Load(0) != 5 || len(d.Dirty()) != 0 {
		t.Error(n, err)
	}
}

// A long life of saves, stores, commits, rollbacks and power failures.
func TestLife(t *testing.T) {
	s := sequence(6)
	r := region{3, 4}
	all := r.words(10)[:30]
	for range 30 {
		d := newDevice(t, 10)
		persistent, present := map[uint64]uint64{}, map[uint64]uint64{}
		var saved []uint64
		for range 60 {
			next := maps.Clone(present)
			d.Arm(s.below(60) - 1)
			l := r.open(t, d.Thread(0))
			err := api.OK
			switch k := s.below(8); {
			case k < 3 && len(saved) < r.capacity():
				off := all[s.below(len(all))]
				if err = l.Save([]uint64{off}); err == api.OK && !slices.Contains(saved, off) {
					saved = append(saved, off)
				}
			case k < 6 && len(saved) > 0:
				w := mem.Write{Off: saved[s.below(len(saved))], Value: s.next()}
				d.Thread(0).Store(w.Off, w.Value)
				err = d.Thread(0).Err()
				present[w.Off] = w.Value
				next = maps.Clone(persistent)
			case k == 6:
				if err = l.Commit(); err == api.OK {
					persistent, saved = maps.Clone(present), nil
				}
			case k == 7:
				next = maps.Clone(persistent)
				if err = l.Rollback(); err == api.OK {
					present, saved = maps.Clone(persistent), nil
				}
			}
			if err == api.OK && s.below(10) > 0 {
				d.Arm(-1)
				if !holds(d, all, present) {
					t.Fatal("another content")
				}
				continue
			}
			if err != api.OK && err != api.ErrOff {
				t.Fatal(err)
			}
			choice := make([]byte, 1+s.below(20))
			for i := range choice {
				choice[i] = byte(s.next() >> 40)
			}
			d = d.Crash(choice)
			r.recovers(t, d)
			saved = nil
			if !holds(d, all, persistent) {
				if err == api.OK || !holds(d, all, next) {
					t.Fatal("another content")
				}
				persistent = next
			}
			present = maps.Clone(persistent)
		}
	}
}

// holds reports whether the words at the offsets have the values of the model.
func holds(d *device.Device, offs []uint64, model map[uint64]uint64) bool {
	for _, off := range offs {
		if d.Thread(0).Load(off) != model[off] {
			return false
		}
	}
	return true
}
