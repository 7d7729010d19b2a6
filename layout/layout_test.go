package layout_test

import (
	"fmt"
	"math"
	"reflect"
	"slices"
	"strings"
	"testing"

	"bedrock/api"
	"bedrock/layout"
)

const (
	top = 1 << 63
	all = math.MaxUint64
)

// types returns the types and their widths, as the chapter lists them.
func types() map[layout.Type]int {
	return map[layout.Type]int{layout.U64: 64, layout.I64: 64, layout.U32: 32, layout.U16: 16, layout.U8: 8, layout.Flag: 1, layout.Pointer: 64}
}

// sequence yields a fixed irregular sequence of numbers.
type sequence uint64

func (s *sequence) next() uint64 {
	x := *s
	x ^= x << 13
	x ^= x >> 7
	x ^= x << 17
	*s = x
	return uint64(x) * 0x2545f4914f6cdd1d
}

func (s *sequence) below(n int) int {
	return int(s.next() >> 33 % uint64(n))
}

func (s *sequence) words(n int) []uint64 {
	ws := make([]uint64, n)
	for i := range ws {
		ws[i] = s.next()
	}
	return ws
}

// fields returns 1 to 8 fields, each with another one of the names a to j.
func (s *sequence) fields() []layout.Field {
	names := strings.Split("abcdefghij", "")
	fs := make([]layout.Field, 1+s.below(8))
	for i := range fs {
		at := s.below(len(names))
		fs[i] = layout.Field{Name: names[at], Type: layout.U64 + layout.Type(s.below(7)), Count: 1 + s.below(1+s.below(40))}
		names = slices.Delete(names, at, at+1)
	}
	return fs
}

// bit is a bit of the packing: the number of its word, and its number there.
type bit struct{ word, shift int }

// places returns where each element of each field begins, and how many words the packing has: it goes from element to element.
func places(fields []layout.Field) ([][]bit, int) {
	at := bit{0, 0}
	var l [][]bit
	for _, f := range fields {
		var p []bit
		for range f.Count {
			if 64-at.shift < types()[f.Type] {
				at = bit{at.word + 1, 0}
			}
			p = append(p, at)
			at.shift += types()[f.Type]
		}
		l = append(l, p)
	}
	return l, at.word + 1
}

// must returns a layout of the fields.
func must(t *testing.T, fields ...layout.Field) layout.Layout {
	t.Helper()
	l, err := layout.New("node", 1, fields)
	if err != api.OK {
		t.Fatalf("New(%v): %v", fields, err)
	}
	return l
}

// isZero reports whether l is the zero Layout.
func isZero(l layout.Layout) bool {
	return reflect.DeepEqual(l, layout.Layout{}) && l.Name() == "" && l.Version() == 0 && l.Words() == 0 && len(l.Slots()) == 0 && len(l.Pointers()) == 0 && l.Text() == ""
}

// fails checks that New returns an error and no layout.
func fails(t *testing.T, want api.Errno, name string, version int, fields ...layout.Field) {
	t.Helper()
	if l, err := layout.New(name, version, fields); err != want || !isZero(l) {
		t.Errorf("New(%q, %d, %.200v): %v, %v, want %v", name, version, fields, l, err, want)
	}
}

// The chapter's examples.
func TestExamples(t *testing.T) {
	l := must(t, layout.Field{Name: "a", Type: layout.Flag, Count: 1}, layout.Field{Name: "b", Type: layout.U32, Count: 1}, layout.Field{Name: "c", Type: layout.U64, Count: 1})
	b, _ := l.Find("b")
	c, _ := l.Find("c")
	if b.Word != 0 || b.Shift != 1 || c.Word != 1 || c.Shift != 0 || l.Words() != 2 || l.Text() != "node v1 { a flag; b u32; c u64; }" {
		t.Error(b, c, l.Words(), l.Text())
	}
	from := must(t, layout.Field{Name: "x", Type: layout.I64, Count: 1})
	to := must(t, layout.Field{Name: "x", Type: layout.U64, Count: 1})
	if ws, err := layout.Convert(from, to, []uint64{all}); err != api.ErrRange || len(ws) != 0 {
		t.Error(ws, err)
	}
}

// The numbers of the types, which the chapter gives by iota.
func TestTypes(t *testing.T) {
	for i, typ := range []layout.Type{layout.U64, layout.I64, layout.U32, layout.U16, layout.U8, layout.Flag, layout.Pointer} {
		if typ != layout.Type(i+1) {
			t.Error(i, typ)
		}
	}
}

// P12.1.
func TestNew(t *testing.T) {
	s := sequence(5)
	packed := 0
	for range 3000 {
		fields := s.fields()
		at, words := places(fields)
		if words > api.MaxBlock {
			fails(t, api.ErrLimit, "x", 1, fields...)
			continue
		}
		packed++
		name, version := "n"+strings.Repeat("_", s.below(16)), 1+s.below(65535)
		l, err := layout.New(name, version, fields)
		if err != api.OK || l.Name() != name || l.Version() != version || l.Words() != words {
			t.Fatalf("%v: %v, %q, %d, %d words, want %d", fields, err, l.Name(), l.Version(), l.Words(), words)
		}
		var want []layout.Slot
		for i, f := range fields {
			want = append(want, layout.Slot{Field: f, Word: at[i][0].word, Shift: at[i][0].shift, Width: types()[f.Type]})
		}
		if !slices.Equal(l.Slots(), want) {
			t.Fatalf("%v: the slots are %v, want %v", fields, l.Slots(), want)
		}
		for _, s := range want {
			if got, err := l.Find(s.Field.Name); got != s || err != api.OK {
				t.Fatalf("Find(%s): %v, %v, want %v", s.Field.Name, got, err, s)
			}
		}
		for _, name := range []string{"", "A", "k", "aa", "a ", " a", "n"} {
			if got, err := l.Find(name); got != (layout.Slot{}) || err != api.ErrNone {
				t.Fatalf("Find(%q): %v, %v", name, got, err)
			}
		}
	}
	if packed < 1000 {
		t.Error("only", packed, "layouts")
	}
}

// P12.1: which names are names, of layouts and of fields.
func TestNames(t *testing.T) {
	good := []string{"a", "z", "A", "Z", "a0", "a9", "a_", "A_b1", "abcdefghijklmnop", "Z_______________", "v", "u64", "flag"}
	bad := []string{"", "_", "_a", "0", "9a", " ", " a", "a ", "a b", "a.b", "a-b", "a;", "a{", "a\x00", "\x00", "é", "aé", "a\xff", "a@", "a[", "a`", "a{", "a/", "a:", "@", "[", "`", "{", "abcdefghijklmnopq", "abcdefghijklmnop ", strings.Repeat("a", 1000)}
	field := layout.Field{Name: "x", Type: layout.U64, Count: 1}
	for _, name := range good {
		named := layout.Field{Name: name, Type: layout.U8, Count: 2}
		l, err := layout.New(name, 1, []layout.Field{named})
		if err != api.OK || l.Name() != name {
			t.Errorf("%q: %v", name, err)
		}
		if s, err := l.Find(name); err != api.OK || s.Field != named {
			t.Errorf("%q: %v, %v", name, s, err)
		}
	}
	for _, name := range bad {
		fails(t, api.ErrName, name, 1, field)
		fails(t, api.ErrName, "x", 1, layout.Field{Name: name, Type: layout.U64, Count: 1})
		fails(t, api.ErrName, "x", 1, field, layout.Field{Name: name, Type: layout.U64, Count: 1})
	}
	for c := range 256 {
		is := strings.Contains("ABCDEFGHIJKLMNOPQRSTUVWXYZabcdefghijklmnopqrstuvwxyz", string(rune(c))) && c < 128
		more := is || '0' <= c && c <= '9' || c == '_'
		if _, err := layout.New(string([]byte{byte(c)}), 1, []layout.Field{field}); (err == api.OK) != is {
			t.Errorf("the byte %d: %v", c, err)
		}
		if _, err := layout.New(string([]byte{'a', byte(c)}), 1, []layout.Field{field}); (err == api.OK) != more {
			t.Errorf("the second byte %d: %v", c, err)
		}
	}
}

// P12.1: versions and types.
func TestVersionsAndTypes(t *testing.T) {
	field := layout.Field{Name: "x", Type: layout.U64, Count: 1}
	for _, version := range []int{1, 2, 255, 256, 65534, 65535} {
		if l, err := layout.New("x", version, []layout.Field{field}); err != api.OK || l.Version() != version {
			t.Error(version, err)
		}
	}
	for _, version := range []int{0, -1, 65536, 65537, 1 << 32, 1<<32 + 1, math.MinInt, math.MaxInt} {
		fails(t, api.ErrArg, "x", version, field)
	}
	for n := range 256 {
		_, err := layout.New("x", 1, []layout.Field{{Name: "x", Type: layout.Type(n), Count: 1}})
		if (err == api.OK) != (types()[layout.Type(n)] > 0) || err != api.OK && err != api.ErrArg {
			t.Error("the type", n, err)
		}
	}
	for _, count := range []int{0, -1, -64, math.MinInt, math.MinInt + 1} {
		for typ := range types() {
			fails(t, api.ErrArg, "x", 1, layout.Field{Name: "x", Type: typ, Count: count})
		}
	}
}

// P12.1: the order of the errors.
func TestOrderOfErrors(t *testing.T) {
	good := layout.Field{Name: "a", Type: layout.U64, Count: 1}
	noName := layout.Field{Name: "1", Type: 9, Count: 0}
	noType := layout.Field{Name: "a", Type: 9, Count: 1}
	noCount := layout.Field{Name: "a", Type: layout.U64, Count: 0}
	large := layout.Field{Name: "b", Type: layout.Flag, Count: 64*60 + 1}
	huge := layout.Field{Name: "c", Type: layout.U64, Count: math.MaxInt}
	fails(t, api.ErrName, "", 0)
	fails(t, api.ErrName, "1", 1, noType)
	fails(t, api.ErrName, "1", 0, good)
	fails(t, api.ErrArg, "x", 0, noName)
	fails(t, api.ErrArg, "x", 70000, good)
	fails(t, api.ErrArg, "x", 1)
	fails(t, api.ErrArg, "x", 0)
	fails(t, api.ErrName, "x", 1, noName)
	fails(t, api.ErrArg, "x", 1, good, noType)
	fails(t, api.ErrArg, "x", 1, good, noCount)
	fails(t, api.ErrExists, "x", 1, good, good)
	fails(t, api.ErrArg, "x", 1, noType, noName)
	fails(t, api.ErrName, "x", 1, noName, noType)
	fails(t, api.ErrArg, "x", 1, noCount, noName)
	fails(t, api.ErrExists, "x", 1, good, good, noName)
	fails(t, api.ErrExists, "x", 1, good, good, noType)
	fails(t, api.ErrArg, "x", 1, good, noType, good)
	fails(t, api.ErrName, "x", 1, good, noName, good)
	fails(t, api.ErrLimit, "x", 1, good, large)
	fails(t, api.ErrName, "x", 1, large, noName)
	fails(t, api.ErrArg, "x", 1, large, noType)
	fails(t, api.ErrArg, "x", 1, huge, good, noCount)
	fails(t, api.ErrExists, "x", 1, large, large)
	fails(t, api.ErrExists, "x", 1, huge, huge)
	fails(t, api.ErrExists, "x", 1, good, large, huge, large)
	fails(t, api.ErrLimit, "x", 1, huge, large)
	fails(t, api.ErrExists, "x", 1, layout.Field{Name: "a", Type: layout.U8, Count: 3}, layout.Field{Name: "b", Type: layout.U8, Count: 1}, layout.Field{Name: "a", Type: layout.Flag, Count: 1})
	if _, err := layout.New("x", 1, []layout.Field{good, {Name: "A", Type: layout.U64, Count: 1}}); err != api.OK {
		t.Error("a and A are two names", err)
	}
}

// P12.1: the largest packings.
func TestLimit(t *testing.T) {
	for typ, width := range types() {
		most := 60 * (64 / width)
		l, err := layout.New("x", 1, []layout.Field{{Name: "a", Type: typ, Count: most}})
		if err != api.OK || l.Words() != 60 {
			t.Error(typ, most, err, l.Words())
		}
		for _, count := range []int{most + 1, most + 2, 2 * most, 3840 + 1, 1 << 20, 1 << 31, 1 << 32, 1 << 58, 1<<58 + 1, 1 << 62, math.MaxInt - 64, math.MaxInt - 1, math.MaxInt} {
			fails(t, api.ErrLimit, "x", 1, layout.Field{Name: "a", Type: typ, Count: count})
			fails(t, api.ErrLimit, "x", 1, layout.Field{Name: "a", Type: typ, Count: count}, layout.Field{Name: "b", Type: typ, Count: count})
			for _, before := range []int{1, 64, 65, 500, 3839} {
				fails(t, api.ErrLimit, "x", 1, layout.Field{Name: "b", Type: layout.Flag, Count: before}, layout.Field{Name: "a", Type: typ, Count: count})
			}
		}
		fails(t, api.ErrLimit, "x", 1, layout.Field{Name: "a", Type: typ, Count: most}, layout.Field{Name: "b", Type: layout.Flag, Count: 1})
		if typ != layout.Flag {
			fails(t, api.ErrLimit, "x", 1, layout.Field{Name: "b", Type: layout.Flag, Count: 1}, layout.Field{Name: "a", Type: typ, Count: most})
		}
	}
	// An element that the last word has no more room for.
	almost := layout.Field{Name: "a", Type: layout.Flag, Count: 60*64 - 7}
	fails(t, api.ErrLimit, "x", 1, almost, layout.Field{Name: "b", Type: layout.U8, Count: 1})
	must(t, almost, layout.Field{Name: "b", Type: layout.Flag, Count: 7})
	var flags []layout.Field
	for i := range 60 * 64 {
		flags = append(flags, layout.Field{Name: fmt.Sprintf("f%d", i), Type: layout.Flag, Count: 1})
	}
	l := must(t, flags...)
	if slots := l.Slots(); l.Words() != 60 || len(slots) != 3840 || slots[3839].Word != 59 || slots[3839].Shift != 63 {
		t.Error(l.Words())
	}
	fails(t, api.ErrLimit, "x", 1, append(flags, layout.Field{Name: "g", Type: layout.Flag, Count: 1})...)
	fails(t, api.ErrExists, "x", 1, append(flags, flags...)...)
}

// Rule 'Memory'.
func TestNewKeepsNothing(t *testing.T) {
	fields := []layout.Field{{Name: "a", Type: layout.U8, Count: 2}, {Name: "p", Type: layout.Pointer, Count: 2}}
	l := must(t, fields...)
	text := l.Text()
	clear(fields)
	clear(l.Slots())
	clear(l.Pointers())
	if l.Text() != text || text != "node v1 { a u8[2]; p pointer[2]; }" || !slices.Equal(l.Pointers(), []int{1, 2}) || l.Slots()[1].Word != 1 {
		t.Error(l.Text())
	}
}

// P12.1 and P12.2: the zero Layout.
func TestZeroLayout(t *testing.T) {
	var l layout.Layout
	if !isZero(l) {
		t.Error(l)
	}
	if s, err := l.Find("a"); s != (layout.Slot{}) || err != api.ErrNone {
		t.Error(s, err)
	}
	for _, ws := range [][]uint64{nil, {}} {
		if v, err := l.Get(ws, "a", 0); v != 0 || err != api.ErrNone {
			t.Error(v, err)
		}
		if out, err := l.Set(ws, "", 0, 1); len(out) != 0 || err != api.ErrNone {
			t.Error(out, err)
		}
	}
	if v, err := l.Get([]uint64{1}, "a", 0); v != 0 || err != api.ErrArg {
		t.Error(v, err)
	}
	if out, err := l.Set([]uint64{1}, "a", 0, 1); len(out) != 0 || err != api.ErrArg {
		t.Error(out, err)
	}
}

// P12.2: each element has bits of its own, where the packing says.
func TestGetAndSet(t *testing.T) {
	s := sequence(9)
	for range 400 {
		fields := s.fields()
		at, words := places(fields)
		if words > api.MaxBlock {
			continue
		}
		l := must(t, fields...)
		ws := s.words(words)
		for k, f := range fields {
			width := types()[f.Type]
			mask := uint64(all) >> (64 - width)
			for i, p := range at[k] {
				if v, err := l.Get(ws, f.Name, i); err != api.OK || v != ws[p.word]>>p.shift&mask {
					t.Fatalf("%v: Get(%x, %s, %d): %x, %v", fields, ws, f.Name, i, v, err)
				}
				for _, v := range []uint64{0, 1, mask, mask / 2, s.next() & mask} {
					want := slices.Clone(ws)
					want[p.word] = want[p.word]&^(mask<<p.shift) | v<<p.shift
					before := slices.Clone(ws)
					out, err := l.Set(ws, f.Name, i, v)
					if err != api.OK || !slices.Equal(out, want) || !slices.Equal(ws, before) {
						t.Fatalf("%v: Set(%x, %s, %d, %x): %x, %v, want %x", fields, ws, f.Name, i, v, out, err, want)
					}
					if got, err := l.Get(out, f.Name, i); got != v || err != api.OK {
						t.Fatalf("%v: %s[%d] is %x, %v, want %x", fields, f.Name, i, got, err, v)
					}
					clear(out[:cap(out)])
					if !slices.Equal(ws, before) {
						t.Fatal("the result shares memory with the argument")
					}
				}
			}
		}
	}
}

// P12.2: the errors, in their order.
func TestGetAndSetOfInvalidArguments(t *testing.T) {
	l := must(t, layout.Field{Name: "f", Type: layout.Flag, Count: 3}, layout.Field{Name: "b", Type: layout.U8, Count: 20}, layout.Field{Name: "h", Type: layout.U16, Count: 1}, layout.Field{Name: "w", Type: layout.U32, Count: 2}, layout.Field{Name: "i", Type: layout.I64, Count: 1})
	words := l.Words()
	check := func(n int, name string, i int, v uint64, get, set api.Errno) {
		t.Helper()
		ws := make([]uint64, n)
		if got, err := l.Get(ws, name, i); err != get || got != 0 {
			t.Errorf("Get(%d words, %q, %d): %d, %v, want %v", n, name, i, got, err, get)
		}
		if out, err := l.Set(ws, name, i, v); err != set || err != api.OK && len(out) != 0 {
			t.Errorf("Set(%d words, %q, %d, %d): %v, %v, want %v", n, name, i, v, out, err, set)
		}
	}
	for _, n := range []int{0, 1, words - 1, words + 1, 100} {
		check(n, "b", 0, 1, api.ErrArg, api.ErrArg)
		check(n, "z", -1, all, api.ErrArg, api.ErrArg)
		check(n, "b", 20, all, api.ErrArg, api.ErrArg)
	}
	for _, name := range []string{"", "z", "B", "b ", "bb", "node"} {
		check(words, name, 0, 1, api.ErrNone, api.ErrNone)
		check(words, name, -1, all, api.ErrNone, api.ErrNone)
	}
	for name, count := range map[string]int{"f": 3, "b": 20, "h": 1, "w": 2, "i": 1} {
		for _, i := range []int{-1, -2, count, count + 1, 1 << 32, 1<<32 + 1, math.MinInt, math.MaxInt, math.MaxInt - 1} {
			check(words, name, i, 0, api.ErrRange, api.ErrRange)
			check(words, name, i, all, api.ErrRange, api.ErrRange)
		}
		check(words, name, 0, 0, api.OK, api.OK)
		check(words, name, count-1, 1, api.OK, api.OK)
	}
	for name, width := range map[string]int{"f": 1, "b": 8, "h": 16, "w": 32} {
		check(words, name, 0, 1<<width-1, api.OK, api.OK)
		for b := width; b < 64; b++ {
			check(words, name, 0, 1<<b, api.OK, api.ErrRange)
			check(words, name, 0, 1<<b|1, api.OK, api.ErrRange)
		}
		check(words, name, 0, all, api.OK, api.ErrRange)
	}
	check(words, "i", 0, all, api.OK, api.OK)
	check(words, "i", 0, top, api.OK, api.OK)
}

// P12.2.
func TestPointers(t *testing.T) {
	s := sequence(21)
	found := 0
	for range 2000 {
		fields := s.fields()
		at, words := places(fields)
		if words > api.MaxBlock {
			continue
		}
		var want []int
		for i, f := range fields {
			for _, p := range at[i] {
				if f.Type == layout.Pointer {
					want = append(want, p.word)
				}
			}
		}
		got := must(t, fields...).Pointers()
		if !slices.Equal(got, want) || !slices.IsSorted(got) {
			t.Fatalf("%v: the pointers are %v, want %v", fields, got, want)
		}
		found += len(got)
	}
	if found == 0 {
		t.Error("no pointers")
	}
	l := must(t, layout.Field{Name: "p", Type: layout.Pointer, Count: 60})
	if got := l.Pointers(); len(got) != 60 || got[0] != 0 || got[59] != 59 {
		t.Error(got)
	}
	if got := must(t, layout.Field{Name: "u", Type: layout.U64, Count: 5}).Pointers(); len(got) != 0 {
		t.Error(got)
	}
}
