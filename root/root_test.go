package root_test

import (
	"fmt"
	"maps"
	"math"
	"slices"
	"strings"
	"testing"

	"bedrock/api"
	"bedrock/device"
	"bedrock/mem"
	"bedrock/pptr"
	"bedrock/root"
)

// The chapter's examples.
func TestExamples(t *testing.T) {
	v, d := newDirectory(t, 10, 1)
	p, q := pointer(10), pointer(20)
	ws, err := d.Actions("a", p)
	want := []mem.Write{{Off: 64, Value: 0x61}, {Off: 72}, {Off: 80, Value: uint64(p)}, {Off: 88, Value: entryOf("a", p)[3]}}
	if err != api.OK || !slices.Equal(ws, want) {
		t.Error(ws, err)
	}
	program, err := d.Plan("a", p)
	if err != api.OK {
		t.Error(err)
	}
	sameProgram(t, "Plan", program, stores(1, want...))
	mustSet(t, d, "b", p)
	mustSet(t, d, "a", q)
	mustSet(t, d, "b", q)
	if l := d.List(); !slices.Equal(l, []root.Entry{{Name: "a", Ptr: q}, {Name: "b", Ptr: q}}) {
		t.Error(l)
	}
	if err := d.Remove("b"); err != api.OK {
		t.Error(err)
	}
	if x, err := d.Get("b"); x != 0 || err != api.ErrNone {
		t.Error(x, err)
	}
	mustSet(t, d, "c", p)
	if off, err := d.Slot("c"); off != 64+16 || err != api.OK {
		t.Error(off, err)
	}
	if v.Thread(0).Load(64) != 0x63 {
		t.Error(v.Current())
	}
}

// isName is the definition of a name.
func isName(s string) bool {
	const letters = "abcdefghijklmnopqrstuvwxyzABCDEFGHIJKLMNOPQRSTUVWXYZ"
	return s != "" && len(s) <= 16 && strings.Contains(letters, s[:1]) && strings.Trim(s, letters+"0123456789_") == "" && !strings.ContainsFunc(s, func(r rune) bool {
		return !strings.ContainsRune(letters+"0123456789_", r)
	})
}

// P14.1: names of all bytes, at all positions, of all lengths.
func TestName(t *testing.T) {
	if root.Lines != 8 || root.Name("") {
		t.Error("the empty name")
	}
	for b := range 256 {
		for n := range 20 {
			for at := range n + 1 {
				s := strings.Repeat("k", at) + string([]byte{byte(b)}) + strings.Repeat("k", n-at)
				if root.Name(s) != isName(s) {
					t.Fatalf("%q: %v", s, root.Name(s))
				}
			}
		}
	}
	for _, s := range []string{"a", "Z", "a1", "A_", "z9_Z", "abcdefghijklmnop", "A23456789_123456"} {
		if !root.Name(s) {
			t.Errorf("%q is no name", s)
		}
	}
	for _, s := range []string{"1", "_", "_a", "1a", "a b", " a", "a ", "a-b", "a.b", "ä", "aä", "é1", "名", "a\x00", "\x00", "\x00a", "abcdefghijklmnopq", "@", "[", "`", "{", "a/", "a:", "a\xff", strings.Repeat("a", 1<<16)} {
		if root.Name(s) {
			t.Errorf("%q is a name", s)
		}
	}
}

// P14.1: what Format executes.
func TestFormat(t *testing.T) {
	for _, line := range []int{0, 1, 2, 56, 1000, 1 << 40} {
		m := newRecorder(math.MaxUint64, line, entryOf("a", 3), entry{1, 2, 3, 4})
		if err := root.Format(m, line); err != api.OK {
			t.Fatal(err)
		}
		var want mem.Program
		for e := range 16 {
			want = append(want, mem.Instr{Op: mem.StoreOp, Off: uint64(64*line + 32*e + 24)})
		}
		for n := range 8 {
			want = append(want, mem.Instr{Op: mem.FlushOp, Off: uint64(64 * (line + n))})
		}
		sameProgram(t, "Format", m.program, append(want, mem.Instr{Op: mem.FenceOp}))
		if d := mustOpen(t, m, line); len(d.List()) != 0 {
			t.Error(d.List())
		}
		if m.words[uint64(64*line)] != 0x61 || m.words[uint64(64*line+48)] != 3 {
			t.Error("Format changes more than the tags")
		}
	}
}

// P14.1: Format is durable, whatever was there.
func TestFormatIsDurable(t *testing.T) {
	v, d := newDirectory(t, 12, 3, "a", "b", "c")
	for _, name := range []string{"d", "e"} {
		p, _ := d.Plan(name, pointer(9))
		p[:4].Run(v.Thread(0))
	}
	if err := root.Format(v.Thread(1), 3); err != api.OK {
		t.Fatal(err)
	}
	if len(v.Dirty()) != 0 || len(d.List()) != 0 {
		t.Error(v.Dirty(), d.List())
	}
	after := v.Crash(nil)
	if l := mustOpen(t, after.Thread(0), 3).List(); len(l) != 0 {
		t.Error(l)
	}
	if root.Format(after.Thread(0), 4) != api.OK || root.Format(after.Thread(0), 0) != api.OK {
		t.Error("the first and the last line")
	}
}

// opensNot checks the error of Open.
func opensNot(t *testing.T, m mem.Memory, line int, want api.Errno) {
	t.Helper()
	if d, err := root.Open(m, line); d != nil || err != want {
		t.Fatalf("Open at %d: %v, want %v", line, err, want)
	}
}

// P14.1: memories without the lines, which come before the memory's error.
func TestInvalidLines(t *testing.T) {
	check := func(m mem.Memory, line int) {
		t.Helper()
		opensNot(t, m, line, api.ErrArg)
		if err := root.Format(m, line); err != api.ErrArg {
			t.Fatalf("Format at %d: %v", line, err)
		}
	}
	for _, line := range []int{0, -1, 5} {
		for _, m := range []mem.Memory{nil, (*device.Thread)(nil), (*mem.Overlay)(nil), mem.Over(nil), (*mem.Meter)(nil), mem.Count(nil)} {
			check(m, line)
		}
	}
	for _, failed := range []api.Errno{api.OK, api.ErrOff, api.ErrRange} {
		for _, lines := range []int{0, 1, 7, 8, 9, 30} {
			m := &recorder{size: uint64(64*lines + 63), err: failed}
			for _, line := range []int{lines - 7, lines - 6, lines - 1, lines, lines + 1, 4096, math.MaxInt32, math.MaxInt - 7, math.MaxInt, -1, -7, -8, -9, math.MinInt, math.MinInt + 8} {
				if line < 0 || line+8 > lines || line+8 < 0 {
					check(m, line)
				}
			}
			if m.count != 0 {
				t.Error("an instruction")
			}
		}
		m := newRecorder(math.MaxUint64, 0)
		m.err = failed
		last := 1<<58 - 1
		for line := last - 7; line <= last; line++ {
			check(m, line)
		}
		check(m, math.MaxInt)
	}
	m := newRecorder(math.MaxUint64, 0)
	if d, err := root.Open(m, 1<<58-9); d == nil || err != api.OK {
		t.Error(err)
	}
	if err := root.Format(m, 1<<58-9); err != api.OK {
		t.Error(err)
	}
}

// P14.1: the tag of an entry is 0, or that of a name.
func TestOpenOfDamagedEntries(t *testing.T) {
	good := entryOf("Name_12", pointer(5))
	open := func(number int, e entry, want api.Errno) {
		t.Helper()
		m := newRecorder(1024, 3)
		m.put(3, number, e)
		if want != api.OK {
			opensNot(t, m, 3, want)
		} else {
			mustOpen(t, m, 3)
		}
		if len(m.program) != 0 {
			t.Fatal("a change")
		}
	}
	for number := range 16 {
		open(number, good, api.OK)
		for bit := range 64 {
			for _, word := range []int{0, 1, 3} {
				e := good
				e[word] ^= 1 << bit
				open(number, e, api.ErrSum)
				e[3] = 0
				open(number, e, api.OK)
			}
			e := good
			e[2] ^= 1 << bit
			open(number, e, api.OK)
		}
		for _, tag := range []uint64{1, 1 << 32, math.MaxUint64, good[3] - 1<<32, good[3] + 1<<32, entryOf("Name_13", 0)[3]} {
			open(number, entry{good[0], good[1], good[2], tag}, api.ErrSum)
		}
	}
	for b := range 256 {
		for n := range 16 {
			for at := range n + 1 {
				s := strings.Repeat("k", at) + string([]byte{byte(b)}) + strings.Repeat("k", n-at)
				want := api.ErrSum
				// Zero bytes at the end belong to the form of a shorter name.
				if isName(strings.TrimRight(s, "\x00")) {
					want = api.OK
				}
				open(b%16, entryOf(s, 0), want)
			}
		}
	}
	open(3, entryOf("", 0), api.ErrSum)
}

// P14.1: equal names, and that damaged entries come first.
func TestOpenOfEqualNames(t *testing.T) {
	bad := entryOf("c", 1)
	bad[3]++
	for i := range 16 {
		for j := range i {
			m := newRecorder(512, 0)
			m.put(0, i, entryOf("a", 1))
			m.put(0, j, entryOf("b", 1))
			if d := mustOpen(t, m, 0); len(d.List()) != 2 {
				t.Fatal(d.List())
			}
			m.put(0, j, entryOf("a", 2))
			opensNot(t, m, 0, api.ErrForm)
			for k := range 16 {
				if k != i && k != j {
					damaged := m.copy()
					damaged.put(0, k, bad)
					opensNot(t, damaged, 0, api.ErrSum)
				}
			}
			free := entryOf("a", 2)
			free[3] = 0
			m.put(0, j, free)
			mustOpen(t, m, 0)
		}
	}
	var many []entry
	for i := range 16 {
		many = append(many, entryOf(fmt.Sprint("n", i), 1))
	}
	mustOpen(t, newRecorder(512, 0, many...), 0)
	many[15] = entryOf("n0", 1)
	opensNot(t, newRecorder(512, 0, many...), 0, api.ErrForm)
}

// P14.1: of the device only the directory's own lines matter.
func TestOpenLooksAtItsLines(t *testing.T) {
	m := newRecorder(64*10, 1, entryOf("a", pointer(1)))
	for off := uint64(0); off < 64; off += 8 {
		m.words[off] = math.MaxUint64
		m.words[off+576] = math.MaxUint64
	}
	d := mustOpen(t, m, 1)
	if l := d.List(); !slices.Equal(l, []root.Entry{{Name: "a", Ptr: pointer(1)}}) {
		t.Error(l)
	}
	opensNot(t, m, 0, api.ErrSum)
	opensNot(t, m, 2, api.ErrSum)
	// Two handles of a directory, over two threads, see the same.
	v, first := newDirectory(t, 8, 0)
	second := mustOpen(t, v.Thread(1), 0)
	mustSet(t, first, "a", pointer(1))
	mustSet(t, second, "b", pointer(2))
	if a, b := contentOf(t, first), contentOf(t, second); !maps.Equal(a, b) || len(a) != 2 {
		t.Error(a, b)
	}
}

// P14.2, with many directories and changes, compared with a map and the numbers of the entries.
func TestDirectory(t *testing.T) {
	s := sequence(41)
	var names []string
	for i := range 24 {
		names = append(names, "abcdefghXYZ_0123"[i%5:i%5+1+i%11]+fmt.Sprint(i))
	}
	for range 30 {
		line := s.below(5)
		v, d := newDirectory(t, 16, line)
		c := content{}
		var at [16]string
		for range 150 {
			name := names[s.below(len(names))]
			p := pointer(1 + s.below(127))
			e := slices.Index(at[:], name)
			want := api.OK
			if s.below(3) == 0 {
				if e < 0 {
					want = api.ErrNone
				} else {
					at[e] = ""
				}
				p = 0
				if err := d.Remove(name); err != want {
					t.Fatal(name, err, want)
				}
			} else {
				if e < 0 {
					if e = slices.Index(at[:], ""); e < 0 {
						want = api.ErrFull
					} else {
						at[e] = name
					}
				}
				if err := d.Set(name, p); err != want {
					t.Fatal(name, err, want)
				}
			}
			if want == api.OK {
				c = c.with(name, p)
			}
			checkDirectory(t, d, line, c, at, names)
			if s.below(20) == 0 {
				v = v.Crash([]byte{byte(s.next())})
				d = mustOpen(t, v.Thread(s.below(8)), line)
			}
		}
	}
}

// checkDirectory compares everything that a directory shows.
func checkDirectory(t *testing.T, d *root.Directory, line int, c content, at [16]string, names []string) {
	t.Helper()
	var want []root.Entry
	for _, name := range slices.Sorted(maps.Keys(c)) {
		want = append(want, root.Entry{Name: name, Ptr: c[name]})
	}
	l := d.List()
	if !slices.Equal(l, want) {
		t.Fatalf("List is %v, want %v", l, want)
	}
	clear(l[:cap(l)])
	if l := d.List(); !slices.Equal(l, want) {
		t.Fatalf("List is %v after its result was changed", l)
	}
	for _, name := range names {
		p, err := d.Get(name)
		off, err2 := d.Slot(name)
		if e := slices.Index(at[:], name); e < 0 {
			if p != 0 || err != api.ErrNone || off != 0 || err2 != api.ErrNone {
				t.Fatalf("%s: %v, %v, %d, %v", name, p, err, off, err2)
			}
		} else if p != c[name] || err != api.OK || off != uint64(64*line+32*e+16) || err2 != api.OK {
			t.Fatalf("%s: %v, %v, %d, %v", name, p, err, off, err2)
		}
	}
}

// P14.2: what is no name, and names that resemble one.
func TestNoSuchEntry(t *testing.T) {
	_, d := newDirectory(t, 8, 0, "abc", "abcdefgh", "abcdefghijklmnop", "B")
	for _, name := range []string{"", "a", "ab", "abcd", "Abc", "ABC", "abc_", "abc\x00", "abc\x00\x00", "\x00abc", " abc", "abcdefghi", "abcdefg", "abcdefgh\x00", "abcdefghijklmno", "abcdefghijklmnopq", "abcdefghijklmnop\x00", "b", "B1", "1", "_", "ä", strings.Repeat("a", 1<<16)} {
		if p, err := d.Get(name); p != 0 || err != api.ErrNone {
			t.Errorf("Get(%q): %v, %v", name, p, err)
		}
		if off, err := d.Slot(name); off != 0 || err != api.ErrNone {
			t.Errorf("Slot(%q): %v, %v", name, off, err)
		}
	}
	if contentOf(t, d)["abcdefghijklmnop"] != pointer(3) {
		t.Error(d.List())
	}
}

// P14.2: the order is that of bytes.
func TestOrderOfNames(t *testing.T) {
	names := []string{"b", "a", "Z", "A", "a1", "a_", "aa", "aA", "ab", "B_", "B0", "abcdefghi", "abcdefgh", "abcdefgh0", "zzzzzzzzzzzzzzzz", "z"}
	_, d := newDirectory(t, 8, 0, names...)
	var listed []string
	for _, e := range d.List() {
		listed = append(listed, e.Name)
	}
	if !slices.Equal(listed, []string{"A", "B0", "B_", "Z", "a", "a1", "aA", "a_", "aa", "ab", "abcdefgh", "abcdefgh0", "abcdefghi", "b", "z", "zzzzzzzzzzzzzzzz"}) {
		t.Error(listed)
	}
}

// The pointer word is returned as it is found.
func TestAnyPointerWord(t *testing.T) {
	for _, w := range []pptr.Ptr{0, 1, math.MaxUint64, 1 << 63} {
		d := mustOpen(t, newRecorder(512, 0, entryOf("a", w)), 0)
		if p, err := d.Get("a"); p != w || err != api.OK {
			t.Error(p, err)
		}
		if l := d.List(); !slices.Equal(l, []root.Entry{{Name: "a", Ptr: w}}) {
			t.Error(l)
		}
	}
}

// Details: entries that are damaged after Open.
func TestDamageAfterOpen(t *testing.T) {
	m := newRecorder(512, 0, entryOf("a", pointer(1)), entryOf("b", pointer(2)))
	d := mustOpen(t, m, 0)
	// A wrong tag.
	m.words[24] = 7
	m.words[56] = math.MaxUint64
	if c := contentOf(t, d); !maps.Equal(c, content{"a": pointer(1), "b": pointer(2)}) {
		t.Error(c)
	}
	// Another name under the tag.
	m.words[0] = entryOf("zz", 0)[0]
	if c := contentOf(t, d); !maps.Equal(c, content{"zz": pointer(1), "b": pointer(2)}) {
		t.Error(c)
	}
	if p, err := d.Get("zz"); p != pointer(1) || err != api.OK {
		t.Error(p, err)
	}
	if p, err := d.Get("a"); p != 0 || err != api.ErrNone {
		t.Error(p, err)
	}
	if ws, err := d.Actions("zz", 0); err != api.OK || !slices.Equal(ws, []mem.Write{{Off: 24}}) {
		t.Error(ws, err)
	}
	mustSet(t, d, "a", pointer(3))
	if off, err := d.Slot("a"); off != 64+16 || err != api.OK {
		t.Error(off, err)
	}
	// A free entry that gets any tag.
	m.words[32*5], m.words[32*5+24] = entryOf("e", 0)[0], 1
	if off, err := d.Slot("e"); off != 32*5+16 || err != api.OK {
		t.Error(off, err)
	}
	if c := contentOf(t, d); len(c) != 4 || c["e"] != 0 {
		t.Error(c)
	}
	// A tag that gets lost.
	m.words[56] = 0
	if p, err := d.Get("b"); p != 0 || err != api.ErrNone {
		t.Error(p, err)
	}
	// Equal names: the first entry, and a fixed order.
	m.put(0, 1, entryOf("e", pointer(9)))
	m.put(0, 7, entryOf("e", pointer(8)))
	if p, err := d.Get("e"); p != pointer(9) || err != api.OK {
		t.Error(p, err)
	}
	want := []root.Entry{{Name: "a", Ptr: pointer(3)}, {Name: "e", Ptr: pointer(9)}, {Name: "e", Ptr: 0}, {Name: "e", Ptr: pointer(8)}, {Name: "zz", Ptr: pointer(1)}}
	if l := d.List(); !slices.Equal(l, want) {
		t.Error(l)
	}
}
