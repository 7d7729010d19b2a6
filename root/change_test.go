package root_test

import (
	"fmt"
	"maps"
	"math"
	"slices"
	"strings"
	"testing"

	"bedrock/api"
	"bedrock/device"
	"bedrock/mem"
	"bedrock/pptr"
	"bedrock/root"
)

// P14.3: the writes, and the program and the execution that are made of them.
func TestActions(t *testing.T) {
	check := func(m *recorder, line int, name string, p pptr.Ptr, number int, want ...mem.Write) {
		t.Helper()
		d := mustOpen(t, m, line)
		ws, err := d.Actions(name, p)
		if err != api.OK || !slices.Equal(ws, want) {
			t.Fatalf("Actions(%s, %s): %v, %v, want %v", name, p.Text(), ws, err, want)
		}
		clear(ws[:cap(ws)])
		program := stores(line+number/2, want...)
		for range 2 {
			q, err := d.Plan(name, p)
			if err != api.OK {
				t.Fatal(err)
			}
			sameProgram(t, "Plan", q, program)
			clear(q[:cap(q)])
		}
		if len(m.program) != 0 {
			t.Fatal("a change")
		}
		if p.Nil() {
			err = d.Remove(name)
		} else {
			err = d.Set(name, p)
		}
		if err != api.OK {
			t.Fatal(err)
		}
		sameProgram(t, "the change", m.program, program)
		m.program = nil
	}
	for _, line := range []int{0, 1, 3} {
		m := newRecorder(4096, line)
		at := func(number, word int) uint64 { return uint64(64*line + 32*number + 8*word) }
		for number := range 16 {
			// What a free entry contains besides its tag does not matter.
			m.put(line, number, entry{1, math.MaxUint64, 3, 0})
			name := "abcdefghijklmno"[:number%15+1] + string(rune('A'+number))
			p := pointer(number + 1)
			e := entryOf(name, p)
			check(m, line, name, p, number, mem.Write{Off: at(number, 0), Value: e[0]}, mem.Write{Off: at(number, 1), Value: e[1]}, mem.Write{Off: at(number, 2), Value: e[2]}, mem.Write{Off: at(number, 3), Value: e[3]})
			q := pointer(number + 100)
			check(m, line, name, q, number, mem.Write{Off: at(number, 2), Value: uint64(q)})
			check(m, line, name, q, number, mem.Write{Off: at(number, 2), Value: uint64(q)})
		}
		for _, number := range []int{3, 0, 15, 8} {
			name := "abcdefghijklmno"[:number%15+1] + string(rune('A'+number))
			check(m, line, name, 0, number, mem.Write{Off: at(number, 3)})
		}
		// The free entries are 0, 3, 8 and 15.
		for _, number := range []int{0, 3, 8, 15} {
			name := fmt.Sprint("new", number)
			e := entryOf(name, pointer(7))
			check(m, line, name, pointer(7), number, mem.Write{Off: at(number, 0), Value: e[0]}, mem.Write{Off: at(number, 1), Value: e[1]}, mem.Write{Off: at(number, 2), Value: e[2]}, mem.Write{Off: at(number, 3), Value: e[3]})
		}
	}
}

// refuses checks the error of Actions and Plan, and of the change, which executes nothing but loads.
func refuses(t *testing.T, d *root.Directory, m *recorder, name string, p pptr.Ptr, want api.Errno) {
	t.Helper()
	if ws, err := d.Actions(name, p); len(ws) != 0 || err != want {
		t.Fatalf("Actions(%.20q, %s): %v, %v, want %v", name, p.Text(), ws, err, want)
	}
	if q, err := d.Plan(name, p); len(q) != 0 || err != want {
		t.Fatalf("Plan(%.20q, %s): %v, %v, want %v", name, p.Text(), q, err, want)
	}
	if p.Nil() {
		if err := d.Remove(name); err != want {
			t.Fatalf("Remove(%.20q): %v, want %v", name, err, want)
		}
	} else if err := d.Set(name, p); err != want {
		t.Fatalf("Set(%.20q, %s): %v, want %v", name, p.Text(), err, want)
	}
	if len(m.program) != 0 {
		t.Fatal("a change", m.program)
	}
}

// P14.3 and P14.4: the order of the errors.
func TestErrorsOfChanges(t *testing.T) {
	var full []entry
	for i := range 16 {
		full = append(full, entryOf(fmt.Sprint("n", i), pointer(1)))
	}
	beyond, _ := pptr.Make(1024, 1, 64)
	far, _ := pptr.Make(1<<34, 1, 64)
	invalid := []pptr.Ptr{beyond, far, 1, 8, math.MaxUint64, pointer(5) | 1<<56, pointer(5) | 1<<55, 1<<32 | 64<<48, 5 | 64<<48, 5 | 1<<32}
	for _, failed := range []api.Errno{api.OK, api.ErrOff, api.ErrRange, api.ErrSum} {
		m := newRecorder(1024, 2, full...)
		d := mustOpen(t, m, 2)
		m.err = failed
		for _, name := range []string{"", "1", "_", "n0\x00", "a b", "abcdefghijklmnopq", strings.Repeat("a", 1<<16)} {
			for _, p := range append([]pptr.Ptr{0, pointer(1)}, invalid...) {
				refuses(t, d, m, name, p, api.ErrName)
			}
			if err := d.Set(name, 0); err != api.ErrName {
				t.Errorf("Set(%.20q, nil): %v", name, err)
			}
		}
		for _, name := range []string{"n0", "n15", "unknown"} {
			for _, p := range invalid {
				refuses(t, d, m, name, p, api.ErrArg)
			}
			if err := d.Set(name, 0); err != api.ErrArg || len(m.program) != 0 {
				t.Errorf("Set(%q, nil): %v", name, err)
			}
		}
		if failed != api.OK {
			for _, name := range []string{"n0", "unknown"} {
				refuses(t, d, m, name, 0, failed)
				refuses(t, d, m, name, pointer(3), failed)
			}
			continue
		}
		refuses(t, d, m, "unknown", 0, api.ErrNone)
		refuses(t, d, m, "unknown", pointer(3), api.ErrFull)
		// A name that is there needs no free entry.
		mustSet(t, d, "n7", pointer(3))
		if err := d.Remove("n9"); err != api.OK {
			t.Error(err)
		}
		mustSet(t, d, "unknown", pointer(3))
	}
	// The last word of the memory is valid.
	m := newRecorder(1024, 2)
	d := mustOpen(t, m, 2)
	last, _ := pptr.Make(1016, 65535, 127)
	mustSet(t, d, "a", last)
	m.program = nil
	refuses(t, d, m, "b", 0, api.ErrNone)
}

// calls are all methods that access the memory. They return ErrExists if they return something else than zero values together with an error.
var calls = []struct {
	name string
	run  func(d *root.Directory) api.Errno
}{
	{"Get", func(d *root.Directory) api.Errno {
		p, err := d.Get("a")
		return checked(err, p == 0)
	}},
	{"Slot", func(d *root.Directory) api.Errno {
		off, err := d.Slot("a")
		return checked(err, off == 0)
	}},
	{"Actions", func(d *root.Directory) api.Errno {
		ws, err := d.Actions("b", pointer(2))
		return checked(err, len(ws) == 0)
	}},
	{"Plan", func(d *root.Directory) api.Errno {
		p, err := d.Plan("b", pointer(2))
		return checked(err, len(p) == 0)
	}},
	{"Set", func(d *root.Directory) api.Errno { return d.Set("b", pointer(2)) }},
	{"Set of a name that is there", func(d *root.Directory) api.Errno { return d.Set("a", pointer(2)) }},
	{"Remove", func(d *root.Directory) api.Errno { return d.Remove("a") }},
}

// checked returns the error of a call, given whether its other results are zero values.
func checked(err api.Errno, zero bool) api.Errno {
	if err != api.OK && !zero {
		return api.ErrExists
	}
	return err
}

// The memory's error, before and during a call.
func TestMemoryWithAnError(t *testing.T) {
	for _, c := range calls {
		content := newRecorder(1024, 0, entryOf("a", pointer(1)))
		for _, failed := range []api.Errno{api.ErrOff, api.ErrRange, api.ErrArg, api.ErrSum} {
			m := content.copy()
			d := mustOpen(t, m, 0)
			m.err = failed
			if err := c.run(d); err != failed || len(m.program) != 0 {
				t.Errorf("%s: %v, want %v", c.name, err, failed)
			}
		}
		whole := content.copy()
		d := mustOpen(t, whole, 0)
		whole.count = 0
		if err := c.run(d); err != api.OK {
			t.Fatal(c.name, err)
		}
		for failing := 1; failing <= whole.count; failing++ {
			m := content.copy()
			d := mustOpen(t, m, 0)
			m.count, m.failing = 0, failing
			if err := c.run(d); err != api.ErrOff {
				t.Fatalf("%s, failing at %d of %d: %v", c.name, failing, whole.count, err)
			}
		}
	}
}

func TestListWithAnError(t *testing.T) {
	m := newRecorder(1024, 0, entryOf("a", pointer(1)))
	d := mustOpen(t, m, 0)
	m.count = 0
	if len(d.List()) != 1 {
		t.Fatal(d.List())
	}
	for failing := m.count; failing > 0; failing-- {
		m.err, m.count, m.failing = api.OK, 0, failing
		if l := d.List(); len(l) != 0 {
			t.Fatal(failing, l)
		}
	}
	for _, failed := range []api.Errno{api.ErrOff, api.ErrRange} {
		m.err = failed
		if l := d.List(); len(l) != 0 {
			t.Error(failed, l)
		}
	}
	m.err = api.OK
	if len(d.List()) != 1 {
		t.Error(d.List())
	}
}

// P14.1: the memory's error in Format and Open comes before those of the entries.
func TestOpenWithAnError(t *testing.T) {
	damaged := newRecorder(1024, 0, entry{1, 2, 3, 4})
	for _, content := range []*recorder{damaged, newRecorder(1024, 0), newRecorder(1024, 0, entryOf("a", 1), entryOf("a", 1))} {
		for _, failed := range []api.Errno{api.ErrOff, api.ErrRange, api.ErrArg} {
			m := content.copy()
			m.err = failed
			opensNot(t, m, 8, failed)
			opensNot(t, m, 0, failed)
			if err := root.Format(m, 0); err != failed || len(m.program) != 0 {
				t.Error(err)
			}
		}
		whole := content.copy()
		root.Open(whole, 0)
		for failing := 1; failing <= whole.count; failing++ {
			m := content.copy()
			m.failing = failing
			opensNot(t, m, 0, api.ErrOff)
		}
		for failing := 1; failing <= 25; failing++ {
			m := content.copy()
			m.failing = failing
			if err := root.Format(m, 0); err != api.ErrOff {
				t.Error(failing, err)
			}
		}
	}
}

// A device that is off, which its threads do not know yet.
func TestDeviceThatIsOff(t *testing.T) {
	for _, c := range calls {
		v, d := newDirectory(t, 8, 0, "a")
		v.Arm(0)
		v.Thread(3).Fence()
		for range 2 {
			if err := c.run(d); err != api.ErrOff {
				t.Error(c.name, err)
			}
		}
		opensNot(t, v.Thread(1), 0, api.ErrOff)
		if err := root.Format(v.Thread(2), 0); err != api.ErrOff {
			t.Error(err)
		}
		if l := d.List(); len(l) != 0 {
			t.Error(l)
		}
	}
}

func TestNilDirectory(t *testing.T) {
	var d *root.Directory
	for _, c := range calls {
		if err := c.run(d); err != api.ErrArg {
			t.Error(c.name, err)
		}
	}
	for _, name := range []string{"", "1", "a"} {
		for _, p := range []pptr.Ptr{0, 1, pointer(1)} {
			if _, err := d.Actions(name, p); err != api.ErrArg {
				t.Error("Actions", err)
			}
			if _, err := d.Plan(name, p); err != api.ErrArg {
				t.Error("Plan", err)
			}
			if err := d.Set(name, p); err != api.ErrArg {
				t.Error("Set", err)
			}
		}
		if err := d.Remove(name); err != api.ErrArg {
			t.Error("Remove", err)
		}
		if p, err := d.Get(name); p != 0 || err != api.ErrArg {
			t.Error("Get", err)
		}
		if off, err := d.Slot(name); off != 0 || err != api.ErrArg {
			t.Error("Slot", err)
		}
	}
	if l := d.List(); len(l) != 0 {
		t.Error(l)
	}
}

// P14.4: a change is there entirely or not at all, and durable when it has ended.
func TestChangesAreAtomic(t *testing.T) {
	full := make([]string, 15)
	for i := range full {
		full[i] = fmt.Sprint("name", i)
	}
	cases := []struct {
		names    []string
		removed  string
		name     string
		p        pptr.Ptr
		executed int
	}{
		{nil, "", "a", pointer(9), 6},
		{[]string{"a"}, "", "b", pointer(9), 6},
		{[]string{"a"}, "", "a", pointer(9), 3},
		{[]string{"a"}, "", "a", 0, 3},
		{[]string{"a", "b"}, "a", "c", pointer(9), 6},
		{[]string{"a", "b", "c"}, "b", "b", pointer(9), 6},
		{[]string{"a", "b", "c"}, "", "c", 0, 3},
		{full, "", "abcdefghijklmnop", pointer(9), 6},
		{full, "", "name14", pointer(9), 3},
	}
	for i, x := range cases {
		v, d := newDirectory(t, 12, 2, x.names...)
		if x.removed != "" {
			if err := d.Remove(x.removed); err != api.OK {
				t.Fatal(err)
			}
		}
		before := contentOf(t, d)
		after := before.with(x.name, x.p)
		seen := map[bool]bool{}
		n := cuts(t, v, func(m mem.Memory) api.Errno { return change(t, m, x.name, x.p) }, func(crashed *device.Device, ended bool) {
			r := mustOpen(t, crashed.Thread(0), 2)
			c := contentOf(t, r)
			if !maps.Equal(c, after) && (ended || !maps.Equal(c, before)) {
				t.Fatalf("case %d: %v, want %v or %v", i, c, before, after)
			}
			seen[maps.Equal(c, after)] = true
			if len(c) == api.MaxRoots {
				return
			}
			// What is found can be changed again.
			mustSet(t, r, "x", pointer(3))
			if err := r.Remove("x"); err != api.OK {
				t.Fatal(err)
			}
			if got := contentOf(t, r); !maps.Equal(got, c) {
				t.Fatalf("case %d: %v, want %v", i, got, c)
			}
		})
		if n != x.executed || len(seen) != 2 {
			t.Errorf("case %d: %d instructions, %v", i, n, seen)
		}
	}
}

// change changes the directory at line 2.
func change(t *testing.T, m mem.Memory, name string, p pptr.Ptr) api.Errno {
	t.Helper()
	d := mustOpen(t, m, 2)
	if p.Nil() {
		return d.Remove(name)
	}
	return d.Set(name, p)
}

// P14.4: the writes of several changes can be committed together with others.
func TestActionsAreWrites(t *testing.T) {
	v, d := newDirectory(t, 12, 1, "a", "b")
	o := mem.Over(v.Thread(0))
	buffered := mustOpen(t, o, 1)
	mustSet(t, buffered, "c", pointer(3))
	mustSet(t, buffered, "a", pointer(4))
	if err := buffered.Remove("b"); err != api.OK {
		t.Fatal(err)
	}
	if c := contentOf(t, d); !maps.Equal(c, content{"a": pointer(1), "b": pointer(2)}) {
		t.Error(c)
	}
	ws := append(o.Writes(), mem.Write{Off: 640, Value: 5})
	if err := mem.Stores(ws).Run(v.Thread(0)); err != api.OK {
		t.Fatal(err)
	}
	want := content{"a": pointer(4), "c": pointer(3)}
	if c := contentOf(t, d); !maps.Equal(c, want) {
		t.Error(c)
	}
	if c := contentOf(t, mustOpen(t, v.Crash(nil).Thread(0), 1)); !maps.Equal(c, want) {
		t.Error(c)
	}
	// Actions itself has no effect.
	if _, err := d.Actions("z", pointer(1)); err != api.OK || len(v.Dirty()) != 0 {
		t.Error(err, v.Dirty())
	}
	if c := contentOf(t, d); !maps.Equal(c, want) {
		t.Error(c)
	}
}

// The fence of a change is needed for its durability.
func TestChangeWithoutItsFence(t *testing.T) {
	v, d := newDirectory(t, 12, 2, "a")
	p, _ := d.Plan("b", pointer(2))
	if p.Fences() != 1 {
		t.Fatal(p)
	}
	p.Without(0).Run(v.Thread(0))
	lost := false
	images(t, v, func(after *device.Device) {
		lost = lost || len(mustOpen(t, after.Thread(0), 2).List()) == 1
	})
	if !lost {
		t.Error("the change is durable without its fence")
	}
}

// P14.4: a long life with power failures, in which several threads change the directory.
func TestLife(t *testing.T) {
	s := sequence(51)
	names := []string{"a", "b", "c", "abcdefgh", "abcdefghi", "Z_9"}
	for range 30 {
		v, _ := newDirectory(t, 12, 2)
		now := content{}
		for range 60 {
			if s.below(2) == 0 {
				v.Arm(s.below(8))
			}
			name, p := names[s.below(len(names))], pptr.Ptr(0)
			if s.below(3) > 0 {
				p = pointer(1 + s.below(95))
			}
			err := change(t, v.Thread(s.below(8)), name, p)
			want := now.with(name, p)
			if err == api.ErrNone {
				if _, is := now[name]; is || !p.Nil() {
					t.Fatal(name, p)
				}
			} else if err != api.OK && err != api.ErrOff {
				t.Fatal(err)
			}
			v = v.Crash([]byte{byte(s.next()), byte(s.next())})
			got := contentOf(t, mustOpen(t, v.Thread(0), 2))
			if !maps.Equal(got, want) && (err == api.OK || !maps.Equal(got, now)) {
				t.Fatalf("%v, want %v or %v", got, now, want)
			}
			now = got
		}
	}
}
