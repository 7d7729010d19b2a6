package superblock_test

import (
	"math"
	"testing"

	"bedrock/api"
	"bedrock/device"
	"bedrock/mem"
	sb "bedrock/superblock"
)

// call is a function of the package with its results: the error, or ErrExists if it returned something else than zero values together with an error.
type call struct {
	name string
	run  func(m mem.Memory, s sb.Super) api.Errno
}

// checked returns the error of a call, given whether its other results are zero values.
func checked(err api.Errno, zero bool) api.Errno {
	if err != api.OK && !zero {
		return api.ErrExists
	}
	return err
}

// writers are the functions with a Super, readers those without.
var writers = []call{
	{"Plan", func(m mem.Memory, s sb.Super) api.Errno {
		p, err := sb.Plan(m, s)
		return checked(err, len(p) == 0)
	}},
	{"Format", func(m mem.Memory, s sb.Super) api.Errno { return sb.Format(m, s) }},
	{"Update", func(m mem.Memory, s sb.Super) api.Errno { return sb.Update(m, s) }},
}

var readers = []call{
	{"Open", func(m mem.Memory, s sb.Super) api.Errno {
		x, err := sb.Open(m)
		return checked(err, x == sb.Super{})
	}},
	{"Check", func(m mem.Memory, s sb.Super) api.Errno {
		a, b := sb.Check(m)
		if a != b {
			return api.OK
		}
		return a
	}},
	{"Repair", func(m mem.Memory, s sb.Super) api.Errno {
		n, err := sb.Repair(m)
		return checked(err, n == 0)
	}},
}

var all = append(append([]call{}, writers...), readers...)

// fails checks the error of a call that executes nothing but loads.
func fails(t *testing.T, c call, m *recorder, s sb.Super, want api.Errno) {
	t.Helper()
	if err := c.run(m, s); err != want || len(m.program) != 0 {
		t.Fatalf("%s of %d bytes, %+v: %v after %v, want %v", c.name, m.size, s, err, m.program, want)
	}
}

// P13.2: invalid memories come before the memory's error.
func TestInvalidMemories(t *testing.T) {
	for _, c := range all {
		for _, s := range []sb.Super{small(1), {}} {
			if err := c.run(nil, s); err != api.ErrArg {
				t.Errorf("%s without a memory: %v", c.name, err)
			}
			for _, m := range []mem.Memory{(*device.Thread)(nil), (*mem.Overlay)(nil), mem.Over(nil), (*mem.Meter)(nil), mem.Count(nil)} {
				if err := c.run(m, s); err != api.ErrArg {
					t.Errorf("%s of %T: %v", c.name, m, err)
				}
			}
			d, _ := device.New(1)
			if err := c.run(d.Thread(0), s); err != api.ErrArg || d.Thread(0).Err() != api.OK || d.Executed() != 0 {
				t.Errorf("%s of one line: %v", c.name, err)
			}
			for _, failed := range []api.Errno{api.OK, api.ErrOff, api.ErrRange} {
				for _, size := range []uint64{0, 1, 8, 63, 64, 120, 127} {
					m := &recorder{size: size, err: failed}
					fails(t, c, m, s, api.ErrArg)
					if m.count != 0 {
						t.Errorf("%s loads of %d bytes", c.name, size)
					}
				}
			}
		}
	}
}

// P13.2: invalid descriptions come before the memory's error.
func TestInvalidSupers(t *testing.T) {
	good := lineOf(generation(small(1), 5))
	var invalid []sb.Super
	for i := range fields(&sb.Super{}) {
		for _, v := range []int{-1, 0, 65536, math.MinInt, math.MaxInt} {
			s := small(2)
			*fields(&s)[i] = v
			if !isValid(s) {
				invalid = append(invalid, s)
			}
		}
	}
	if len(invalid) < 30 {
		t.Fatal(len(invalid))
	}
	more := small(2)
	more.Lines = 49
	most := small(2)
	most.Lines = 4096
	invalid = append(invalid, sb.Super{}, more, most)
	for _, c := range writers {
		for _, failed := range []api.Errno{api.OK, api.ErrOff, api.ErrRange} {
			for _, s := range invalid {
				for _, size := range []int{2, 47, 48} {
					m := newRecorder(size, good, good)
					m.err = failed
					fails(t, c, m, s, api.ErrArg)
				}
			}
			m := newRecorder(47, good, good)
			m.err = failed
			fails(t, c, m, small(2), api.ErrArg)
			m = newRecorder(48, good, good)
			m.size--
			fails(t, c, m, small(2), api.ErrArg)
		}
		// Of the memory's lines only as many are needed as s says.
		for _, lines := range []int{48, 49, 5000} {
			if err := c.run(newRecorder(lines, good, line{}), small(2)); err != api.OK {
				t.Errorf("%s of %d lines: %v", c.name, lines, err)
			}
		}
		huge := newRecorder(0, good, line{})
		huge.size = math.MaxUint64
		if err := c.run(huge, small(2)); err != api.OK {
			t.Errorf("%s of the largest memory: %v", c.name, err)
		}
	}
}

// P13.2: the memory's error comes before those of the copies.
func TestMemoryWithAnError(t *testing.T) {
	good := lineOf(generation(small(1), math.MaxUint64))
	for _, c := range all {
		for _, failed := range []api.Errno{api.ErrOff, api.ErrRange, api.ErrArg, api.ErrSum, api.ErrLimit} {
			for _, l := range []line{{}, good} {
				m := newRecorder(48, l, l)
				m.err = failed
				fails(t, c, m, small(2), failed)
			}
		}
	}
}

// The rule 'The error of the memory': it can occur during a call.
func TestErrorDuringACall(t *testing.T) {
	s := generation(small(1), 5)
	contents := []*recorder{
		newRecorder(48, lineOf(s), lineOf(generation(small(2), 6))),
		newRecorder(48, lineOf(s), line{}),
		newRecorder(48, line{}, lineOf(s)),
		newRecorder(48, line{}, line{}),
		newRecorder(48, lineOf(generation(s, math.MaxUint64)), line{}),
	}
	for _, c := range all {
		for _, content := range contents {
			whole := content.copy()
			c.run(whole, small(3))
			for failing := 1; failing <= whole.count; failing++ {
				m := content.copy()
				m.failing = failing
				if err := c.run(m, small(3)); err != api.ErrOff {
					t.Fatalf("%s, failing at %d of %d: %v", c.name, failing, whole.count, err)
				}
			}
		}
	}
}

// P13.2: a device that is off, which its threads do not know yet.
func TestDeviceThatIsOff(t *testing.T) {
	for _, c := range all {
		d := newDevice(t, 48, lineOf(generation(small(1), 5)), line{})
		d.Arm(0)
		d.Thread(3).Fence()
		if d.Thread(0).Err() != api.OK {
			t.Fatal(d.Thread(0).Err())
		}
		for range 2 {
			if err := c.run(d.Thread(0), small(2)); err != api.ErrOff {
				t.Errorf("%s: %v", c.name, err)
			}
		}
		if err := c.run((*device.Thread)(nil), small(2)); err != api.ErrArg {
			t.Errorf("%s without a thread: %v", c.name, err)
		}
	}
	// An instruction with an invalid offset leaves an error as well.
	for _, c := range all {
		d := newDevice(t, 48, lineOf(generation(small(1), 5)), line{})
		d.Thread(0).Load(1)
		if err := c.run(d.Thread(0), small(2)); err != api.ErrRange {
			t.Errorf("%s: %v", c.name, err)
		}
		if err := c.run(d.Thread(1), small(2)); err != api.OK {
			t.Errorf("%s of another thread: %v", c.name, err)
		}
	}
}

// P13.3 and P13.5: without a good copy there is nothing to replace or to repair.
func TestNoGoodCopy(t *testing.T) {
	bad := lineOf(small(1))
	bad[4] = 1
	for _, c := range []call{writers[0], writers[2], readers[0], readers[1], readers[2]} {
		for _, l := range []line{{}, bad, bad.summed()} {
			fails(t, c, newRecorder(48, line{}, l), small(2), api.ErrSum)
			fails(t, c, newRecorder(48, l, line{}), small(2), api.ErrSum)
			fails(t, c, newRecorder(48, l, l), small(2), api.ErrSum)
		}
	}
}

// P13.3: the greatest generation has no next one.
func TestGreatestGeneration(t *testing.T) {
	last := lineOf(generation(small(1), math.MaxUint64))
	former := lineOf(generation(small(2), math.MaxUint64-1))
	for _, c := range []call{writers[0], writers[2]} {
		for _, m := range []*recorder{newRecorder(48, last, former), newRecorder(48, former, last), newRecorder(48, last, last), newRecorder(48, last, line{}), newRecorder(48, line{}, last)} {
			fails(t, c, m, small(2), api.ErrLimit)
			fails(t, c, m, generation(small(2), 3), api.ErrLimit)
		}
	}
	m := newRecorder(48, former, line{})
	if err := sb.Update(m, small(3)); err != api.OK {
		t.Fatal(err)
	}
	opens(t, m, generation(small(3), math.MaxUint64), api.OK, api.OK)
	// Format begins again with 1.
	if err := sb.Format(m, small(4)); err != api.OK {
		t.Fatal(err)
	}
	opens(t, m, generation(small(4), 1), api.OK, api.ErrSum)
}
