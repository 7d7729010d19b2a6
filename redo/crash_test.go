package redo_test

import (
	"maps"
	"slices"
	"testing"

	"bedrock/api"
	"bedrock/device"
	"bedrock/mem"
	"bedrock/redo"
)

// old returns the writes that give other values to the same words.
func old(ws []mem.Write) []mem.Write {
	var before []mem.Write
	for _, w := range ws {
		before = append(before, mem.Write{Off: w.Off, Value: w.Value + 1000})
	}
	return before
}

// at returns writes of different values to the offsets.
func at(offs ...uint64) []mem.Write {
	var ws []mem.Write
	for i, off := range offs {
		ws = append(ws, mem.Write{Off: off, Value: uint64(i + 1)})
	}
	return ws
}

// crashing are writes to a memory of 40 lines with a log of the lines 10 to 35.
var crashing = [][]uint64{
	{512},
	{520, 512},
	{0, 512},
	{2496, 64, 2304},
	{0, 8, 16, 24, 32},
	{2552, 0, 128, 192, 256},
}

// P15.3: a commit is there entirely or not at all, and its log is never damaged; when Commit has returned the log is idle in every image.
func TestCommitIsAtomic(t *testing.T) {
	r := region{10, 26}
	for i, offs := range crashing {
		ws := at(offs...)
		before := old(ws)
		d := r.newDevice(t, 40, before...)
		// The entries' lines and a flush of each, a fence, and the commit word with a flush and a fence.
		entries := 2*len(ws) + (len(ws)+3)/4 + 1
		seen := map[bool]int{}
		n := cuts(t, d, func(m mem.Memory) api.Errno { return r.open(t, m).Commit(ws) }, func(after *device.Device, n int, ended bool) {
			m := after.Thread(0)
			if ended {
				r.is(t, m, redo.Idle)
			}
			r.recovers(t, after)
			isNew := has(m, ws)
			if !isNew && !has(m, before) {
				t.Fatalf("case %d, cut at %d: a part of the writes", i, n)
			}
			if isNew && n <= entries || !isNew && n >= entries+3 {
				t.Fatalf("case %d, cut at %d: new values: %v", i, n, isNew)
			}
			seen[isNew]++
			// What is found is persistent, and the log can be used.
			r.recovers(t, after.Crash(nil))
			if has(after.Crash(nil).Thread(0), ws) != isNew {
				t.Fatalf("case %d, cut at %d: not durable", i, n)
			}
			next := []mem.Write{{Off: 1 * 64, Value: 7}, {Off: offs[0], Value: 8}}
			if err := r.open(t, m).Commit(next); err != api.OK || !has(m, next) {
				t.Fatal(err)
			}
		})
		if n != len(r.committing(ws)) || seen[false] == 0 || seen[true] == 0 {
			t.Error(i, n, seen)
		}
	}
}

// Example 2: where the power fails decides.
func TestExampleOfCuts(t *testing.T) {
	r := region{10, 26}
	ws := []mem.Write{{Off: 512, Value: 1}, {Off: 520, Value: 2}, {Off: 512, Value: 3}}
	for n, want := range map[int][]mem.Write{6: {{Off: 512}, {Off: 520}}, 9: {{Off: 512, Value: 3}, {Off: 520, Value: 2}}} {
		d := r.newDevice(t, 40)
		d.Arm(n)
		if err := r.open(t, d.Thread(0)).Commit(ws); err != api.ErrOff {
			t.Fatal(err)
		}
		images(t, d, func(after *device.Device) {
			if found := r.recovers(t, after); found != 2*(n/9) || !has(after.Thread(0), want) {
				t.Error(n, found)
			}
		})
	}
}

// P15.3: words whose former values are not persistent, in lines that other threads have stored to.
func TestCommitAmongOtherStores(t *testing.T) {
	r := region{0, 26}
	d := r.newDevice(t, 30)
	other := d.Thread(1)
	other.Store(1664, 100)
	other.Store(1672, 101)
	other.Store(1728, 102)
	ws := []mem.Write{{Off: 1728, Value: 1}, {Off: 1664, Value: 2}}
	cuts(t, d, func(m mem.Memory) api.Errno { return r.open(t, m).Commit(ws) }, func(after *device.Device, n int, ended bool) {
		m := after.Thread(0)
		r.recovers(t, after)
		if has(m, ws) {
			return
		}
		a, b := m.Load(1664), m.Load(1728)
		if ended || a != 0 && a != 100 || b != 0 && b != 102 {
			t.Fatalf("cut at %d: %d, %d", n, a, b)
		}
	})
}

// P15.4: Recover can be cut and repeated, in every image of a commit.
func TestRecoverIsRepeated(t *testing.T) {
	r := region{10, 26}
	recover := func(m mem.Memory) api.Errno {
		_, err := r.open(t, m).Recover()
		return err
	}
	for _, offs := range crashing[:4] {
		ws := at(offs...)
		d := r.newDevice(t, 40, old(ws)...)
		looked := 0
		cuts(t, d, func(m mem.Memory) api.Errno { return r.open(t, m).Commit(ws) }, func(after *device.Device, _ int, _ bool) {
			state, _ := redo.Look(after.Thread(7), r.line, r.lines)
			want := after.Copy()
			r.recovers(t, want)
			n := cuts(t, after, recover, func(again *device.Device, n int, ended bool) {
				looked++
				if ended {
					r.is(t, again.Thread(0), redo.Idle)
				}
				cuts(t, again, recover, func(third *device.Device, _ int, _ bool) {
					r.recovers(t, third)
					if !slices.Equal(third.Current(), want.Current()) {
						t.Fatal("another result after", n)
					}
				})
				r.recovers(t, again)
				if !slices.Equal(again.Current(), want.Current()) {
					t.Fatal("another result after", n)
				}
			})
			if (n > 0) != (state == redo.Committed) {
				t.Fatal(n, state)
			}
		})
		if looked == 0 {
			t.Error("nothing")
		}
	}
}

// P15.4: what Recover has done is durable when it has returned.
func TestRecoverIsDurable(t *testing.T) {
	r := region{3, 26}
	for n := 1; n <= api.MaxWrites; n += 5 {
		var ws []mem.Write
		for i, off := range r.words(60)[:n] {
			ws = append(ws, mem.Write{Off: off, Value: uint64(i + 1)})
		}
		d := r.newDevice(t, 60)
		d.Arm(len(r.committing(ws)) - len(r.recovery(ws)))
		if err := r.open(t, d.Thread(0)).Commit(ws); err != api.ErrOff {
			t.Fatal(err)
		}
		d = d.Crash(nil)
		r.is(t, d.Thread(0), redo.Committed, ws...)
		if found := r.recovers(t, d); found != n || len(d.Dirty()) != 0 {
			t.Error(n, found, d.Dirty())
		}
		d = d.Crash(nil)
		r.is(t, d.Thread(0), redo.Idle)
		if !has(d.Thread(0), ws) {
			t.Error(n, "not durable")
		}
		if found := r.recovers(t, d); found != 0 {
			t.Error(n, found)
		}
	}
}

// P15.2: without any one of the four fences there is an image that shows it. (A single write is there or not, also without two of them.)
func TestEachFenceIsNeeded(t *testing.T) {
	r := region{10, 26}
	for _, offs := range crashing[1:] {
		ws := at(offs...)
		before := old(ws)
		d := r.newDevice(t, 40, before...)
		whole, err := r.open(t, d.Thread(0)).Plan(ws)
		if err != api.OK || whole.Fences() != 4 {
			t.Fatal(err)
		}
		for fence := -1; fence < 4; fence++ {
			p := whole.Without(fence)
			bad := 0
			cuts(t, d, p.Run, func(after *device.Device, _ int, ended bool) {
				m := after.Thread(0)
				state, _ := redo.Look(m, r.line, r.lines)
				_, err := r.open(t, m).Recover()
				isNew := has(m, ws)
				if err != api.OK || !isNew && !has(m, before) || ended && (!isNew || state != redo.Idle) {
					bad++
				}
			})
			if (bad == 0) != (fence == -1) {
				t.Errorf("%v without the fence %d: %d", offs, fence, bad)
			}
		}
	}
}

// A log over an overlay: the commit is buffered, and becomes persistent together with others.
func TestCommitInAnOverlay(t *testing.T) {
	r := region{0, 26}
	d := r.newDevice(t, 30)
	o := mem.Over(d.Thread(0))
	ws := []mem.Write{{Off: 1664, Value: 5}, {Off: 1800, Value: 6}}
	if err := r.open(t, o).Commit(ws); err != api.OK || !has(o, ws) {
		t.Fatal(err)
	}
	r.is(t, o, redo.Idle)
	if len(d.Dirty()) != 0 || d.Thread(1).Load(1664) != 0 {
		t.Error(d.Dirty())
	}
	o.Store(3, 1)
	if err := r.open(t, o).Commit(ws); err != api.ErrRange {
		t.Error(err)
	}
}

// A long life of commits, of which some are cut by power failures.
func TestLife(t *testing.T) {
	r := region{5, 28}
	s := sequence(3)
	for range 20 {
		d := r.newDevice(t, 40)
		model := map[uint64]uint64{}
		offs := r.words(40)
		for range 40 {
			given := s.choose(s.below(12), offs[:1+s.below(len(offs))])
			next := maps.Clone(model)
			for _, w := range given {
				next[w.Off] = w.Value
			}
			length := len(r.committing(lastOnes(given)))
			d.Arm(s.below(3*length+3) - 1)
			err := r.open(t, d.Thread(s.below(8))).Commit(given)
			if err == api.OK {
				model = next
				d.Arm(-1)
			}
			if err == api.OK && s.below(3) > 0 {
				continue
			}
			choice := make([]byte, 1+s.below(20))
			for i := range choice {
				choice[i] = byte(s.next() >> 40)
			}
			d = d.Crash(choice)
			found, _ := redo.Look(d.Thread(0), r.line, r.lines)
			if found == redo.Damaged || err == api.OK && found != redo.Idle {
				t.Fatal(err, found)
			}
			r.recovers(t, d)
			if !holds(d, offs, model) {
				model = next
			}
			if !holds(d, offs, model) {
				t.Fatal("another content")
			}
		}
		if !holds(d, offs, model) {
			t.Fatal("another content")
		}
	}
}

// holds reports whether the words at the offsets have the values of the model.
func holds(d *device.Device, offs []uint64, model map[uint64]uint64) bool {
	for _, off := range offs {
		if d.Thread(0).Load(off) != model[off] {
			return false
		}
	}
	return true
}
