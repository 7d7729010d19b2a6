package superblock_test

import (
	"math"
	"testing"

	"bedrock/api"
	"bedrock/device"
	"bedrock/mem"
	sb "bedrock/superblock"
)

// a, b are two descriptions, c a third one.
var (
	a = small(1)
	b = sb.Super{Version: 65535, Lines: 50, Redo: 2, Undo: 1, Descriptors: 2}
	c = sb.Super{Version: 3, Lines: 48, Redo: 1, Undo: 2, Descriptors: 1, Table: 1}
)

// state is the content of the two copies, and which of them Plan replaces by the next generation.
type state struct {
	first, second line
	replaced      int
	next          uint64
}

// states are those of pools with at least one good copy.
func states() []state {
	bad := lineOf(generation(b, 9))
	bad[7] ^= 1
	return []state{
		{lineOf(generation(a, 1)), line{}, 1, 2},
		{line{}, lineOf(generation(a, 4)), 0, 5},
		{lineOf(generation(a, 7)), lineOf(generation(b, 8)), 0, 9},
		{lineOf(generation(b, 8)), lineOf(generation(a, 7)), 1, 9},
		{lineOf(generation(a, 5)), lineOf(generation(a, 5)), 1, 6},
		{lineOf(generation(a, 5)), lineOf(generation(b, 5)), 1, 6},
		{lineOf(generation(a, 0)), bad, 1, 1},
		{bad, lineOf(generation(a, 3)), 0, 4},
		{lineOf(generation(a, 1<<63-1)), lineOf(generation(b, 1<<63)), 0, 1<<63 + 1},
		{lineOf(generation(a, math.MaxUint64-1)), lineOf(generation(b, 2)), 1, math.MaxUint64},
	}
}

// P13.3: the program.
func TestPlan(t *testing.T) {
	for i, x := range states() {
		for _, gen := range []uint64{0, 1, x.next, math.MaxUint64} {
			m := newRecorder(50, x.first, x.second)
			p, err := sb.Plan(m, generation(c, gen))
			if err != api.OK || len(m.program) != 0 {
				t.Fatal(i, err, m.program)
			}
			sameProgram(t, "Plan", p, writing(generation(c, x.next), x.replaced))
			if err := sb.Update(m, generation(c, gen)); err != api.OK {
				t.Fatal(i, err)
			}
			sameProgram(t, "Update", m.program, p)
			if s, err := sb.Open(m); err != api.OK || s != generation(c, x.next) {
				t.Fatal(i, s, err)
			}
		}
	}
}

// A result is new memory.
func TestPlanKeepsNothing(t *testing.T) {
	m := newRecorder(50, lineOf(a), line{})
	p, _ := sb.Plan(m, b)
	clear(p[:cap(p)])
	q, _ := sb.Plan(m, b)
	sameProgram(t, "Plan", q, writing(generation(b, 1), 1))
}

// P13.3: an update is there entirely or not at all, and durable when it has ended.
func TestUpdate(t *testing.T) {
	for i, x := range states() {
		d := newDevice(t, 50, x.first, x.second)
		before, err := sb.Open(d.Thread(0))
		if err != api.OK {
			t.Fatal(err)
		}
		seen := map[sb.Super]bool{}
		update := func(m mem.Memory) api.Errno { return sb.Update(m, c) }
		n := cuts(t, d, update, func(after *device.Device, ended bool) {
			s, err := sb.Open(after.Thread(0))
			if err != api.OK || s != generation(c, x.next) && (ended || s != before) {
				t.Fatalf("state %d: %v, %v", i, s, err)
			}
			seen[s] = true
			// The recovered superblock can be updated again, unless the generation is the last one.
			if s.Gen < math.MaxUint64 {
				if err := sb.Update(after.Thread(0), b); err != api.OK {
					t.Fatal(err)
				}
				if r, err := sb.Open(after.Thread(0)); err != api.OK || r != generation(b, s.Gen+1) {
					t.Fatal(r, err)
				}
			}
		})
		if n != 11 || len(seen) != 2 {
			t.Errorf("state %d: %d instructions, %v", i, n, seen)
		}
	}
}

// P13.3: a cut before the check word is stored leaves the former superblock; one after the flush the new one or the former one.
func TestCutsOfUpdate(t *testing.T) {
	for k := range 12 {
		d := newDevice(t, 50, lineOf(generation(a, 1)), line{})
		p, _ := sb.Plan(d.Thread(0), b)
		if err := p[:k].Run(d.Thread(0)); err != api.OK {
			t.Fatal(err)
		}
		found := map[sb.Super]bool{}
		images(t, d, func(after *device.Device) {
			s, _ := sb.Open(after.Thread(0))
			found[s] = true
		})
		if found[generation(a, 1)] != (k < 11) || found[generation(b, 2)] != (k >= 9) {
			t.Errorf("after %d: %v", k, found)
		}
	}
}

// The fence of an update is needed, as without it the next one can destroy both copies.
func TestUpdateWithoutItsFence(t *testing.T) {
	d := newDevice(t, 50, lineOf(generation(a, 1)), line{})
	p, _ := sb.Plan(d.Thread(0), b)
	if p.Fences() != 1 {
		t.Fatal(p)
	}
	p.Without(0).Run(d.Thread(0))
	lost := false
	images(t, d, func(after *device.Device) {
		s, _ := sb.Open(after.Thread(0))
		lost = lost || s != generation(b, 2)
	})
	if !lost {
		t.Error("the update is durable without its fence")
	}
}

// P13.4: the program.
func TestFormat(t *testing.T) {
	former := append(states(), state{}, state{first: line{1, 2, 3, 4, 5, 6, 7, 8}, second: line{7: math.MaxUint64}})
	for i, x := range former {
		for _, gen := range []uint64{0, 1, 77, math.MaxUint64} {
			m := newRecorder(50, x.first, x.second)
			if err := sb.Format(m, generation(c, gen)); err != api.OK {
				t.Fatal(i, err)
			}
			want := mem.Program{{Op: mem.StoreOp, Off: 56}, {Op: mem.StoreOp, Off: 120}, {Op: mem.FlushOp, Off: 0}, {Op: mem.FlushOp, Off: 64}, {Op: mem.FenceOp}}
			sameProgram(t, "Format", m.program, want.Then(writing(generation(c, 1), 0)))
			opens(t, m, generation(c, 1), api.OK, api.ErrSum)
		}
	}
}

// P13.4: what images of a cut Format open as.
func TestCutsOfFormat(t *testing.T) {
	for i, x := range append(states(), state{}) {
		d := newDevice(t, 50, x.first, x.second)
		former := map[sb.Super]bool{}
		for _, l := range []line{x.first, x.second} {
			if s, err := judge(l, 50); err == api.OK {
				former[s] = true
			}
		}
		seen := map[sb.Super]bool{}
		format := func(m mem.Memory) api.Errno { return sb.Format(m, c) }
		n := cuts(t, d, format, func(after *device.Device, ended bool) {
			s, err := sb.Open(after.Thread(0))
			seen[s] = true
			switch {
			case err == api.OK && s == generation(c, 1):
				opens(t, after.Thread(0), s, api.OK, api.ErrSum)
			case ended || err != api.ErrSum && (err != api.OK || !former[s]):
				t.Fatalf("state %d: %v, %v", i, s, err)
			}
		})
		// Every image that is promised exists.
		if n != 16 || len(seen) != 2+len(former) {
			t.Errorf("state %d: %d instructions, %v", i, n, seen)
		}
	}
}

// P13.4: stores to the copies that were not persistent before do not come back.
func TestFormatAfterStores(t *testing.T) {
	d := newDevice(t, 50, lineOf(generation(a, 3)), lineOf(generation(b, 4)))
	p, _ := sb.Plan(d.Thread(1), a)
	p[:9].Run(d.Thread(1))
	q, _ := sb.Plan(d.Thread(1), b)
	q[:7].Run(d.Thread(1))
	if err := sb.Format(d.Thread(0), c); err != api.OK {
		t.Fatal(err)
	}
	count := 0
	images(t, d, func(after *device.Device) {
		count++
		opens(t, after.Thread(0), generation(c, 1), api.OK, api.ErrSum)
	})
	if count != 1 {
		t.Error(count, "images")
	}
}

// P13.5: the results and the program.
func TestRepair(t *testing.T) {
	for i, x := range states() {
		m := newRecorder(50, x.first, x.second)
		want, _ := sb.Open(m)
		_, errA := judge(x.first, 50)
		_, errB := judge(x.second, 50)
		n, err := sb.Repair(m)
		switch {
		case errA == api.OK && errB == api.OK:
			if n != 0 || err != api.OK || len(m.program) != 0 {
				t.Fatal(i, n, err, m.program)
			}
		case n != 1 || err != api.OK:
			t.Fatal(i, n, err)
		case errA == api.OK:
			sameProgram(t, "Repair", m.program, writing(want, 1))
		default:
			sameProgram(t, "Repair", m.program, writing(want, 0))
		}
		opens(t, m, want, api.OK, api.OK)
		m.program = nil
		if n, err := sb.Repair(m); n != 0 || err != api.OK || len(m.program) != 0 {
			t.Fatal(i, n, err, m.program)
		}
	}
}

// P13.5: in every image of every moment Open returns the same.
func TestCutsOfRepair(t *testing.T) {
	for i, x := range states() {
		d := newDevice(t, 50, x.first, x.second)
		want, _ := sb.Open(d.Thread(0))
		repair := func(m mem.Memory) api.Errno {
			_, err := sb.Repair(m)
			return err
		}
		cuts(t, d, repair, func(after *device.Device, ended bool) {
			m := after.Thread(0)
			if s, err := sb.Open(m); err != api.OK || s != want {
				t.Fatalf("state %d: %v, %v, want %v", i, s, err, want)
			}
			if n, err := sb.Repair(m); err != api.OK || n > 1 || ended && n != 0 {
				t.Fatalf("state %d: %d, %v", i, n, err)
			}
			opens(t, m, want, api.OK, api.OK)
		})
	}
}

// P13.5: whatever is damaged in one copy.
func TestRepairOfDamage(t *testing.T) {
	s := sequence(31)
	for range 300 {
		kept, lost := generation(a, s.next()%3), generation(b, s.next()%3)
		bad := lineOf(lost)
		for range 1 + s.below(4) {
			bad[s.below(8)] ^= 1 << s.below(64)
		}
		if _, err := judge(bad, 50); err == api.OK {
			continue
		}
		at := s.below(2)
		d := newDevice(t, 50, bad, bad)
		lineOf(kept).put(t, d, at)
		if n, err := sb.Repair(d.Thread(0)); n != 1 || err != api.OK || lineAt(d, 0) != lineOf(kept) || lineAt(d, 1) != lineOf(kept) {
			t.Fatal(n, err)
		}
	}
}

// P13.2 to P13.5: a long life with power failures, compared with a model of the two copies.
func TestLife(t *testing.T) {
	s := sequence(32)
	for range 40 {
		d, _ := device.New(60)
		if err := sb.Format(d.Thread(0), s.random(60)); err != api.OK {
			t.Fatal(err)
		}
		now, _ := sb.Open(d.Thread(0))
		for range 40 {
			m := d.Thread(s.below(8))
			next := s.random(60)
			if s.below(3) > 0 {
				d.Arm(s.below(16))
			}
			var err api.Errno
			possible := []sb.Super{now}
			switch s.below(4) {
			case 0:
				_, err = sb.Repair(m)
			default:
				err = sb.Update(m, next)
				possible = append(possible, generation(next, now.Gen+1))
			}
			if err == api.OK {
				possible = possible[len(possible)-1:]
			} else if err != api.ErrOff {
				t.Fatal(err)
			}
			d = d.Crash([]byte{byte(s.next()), byte(s.next())})
			got, err := sb.Open(d.Thread(0))
			if err != api.OK || got != possible[0] && got != possible[len(possible)-1] {
				t.Fatalf("%v, %v, want one of %v", got, err, possible)
			}
			now = got
		}
	}
}
