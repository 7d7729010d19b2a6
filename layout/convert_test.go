package layout_test

import (
	"math"
	"math/big"
	"slices"
	"testing"

	"bedrock/api"
	"bedrock/layout"
)

// integer returns the number that bits of a type mean.
func integer(typ layout.Type, v uint64) *big.Int {
	if typ == layout.I64 {
		return big.NewInt(int64(v))
	}
	return new(big.Int).SetUint64(v)
}

// bits returns the bits by which a type represents a number, and whether there are such.
func bits(typ layout.Type, n *big.Int) (uint64, bool) {
	if typ == layout.I64 {
		return uint64(n.Int64()), n.IsInt64()
	}
	return n.Uint64(), n.Sign() >= 0 && n.BitLen() <= types()[typ]
}

// converted returns what the chapter says that Convert returns, by the exported methods of the layouts.
func converted(from, to layout.Layout, ws []uint64) ([]uint64, api.Errno) {
	out := make([]uint64, to.Words())
	for _, target := range to.Slots() {
		f := target.Field
		source, err := from.Find(f.Name)
		if err != api.OK {
			continue
		}
		if f.Type != source.Field.Type && (f.Type == layout.Pointer || source.Field.Type == layout.Pointer) {
			return nil, api.ErrType
		}
		for i := range source.Field.Count {
			v, _ := from.Get(ws, f.Name, i)
			n := integer(source.Field.Type, v)
			b, ok := bits(f.Type, n)
			if i >= f.Count && n.Sign() != 0 || i < f.Count && !ok {
				return nil, api.ErrRange
			}
			if i < f.Count {
				out, _ = to.Set(out, f.Name, i, b)
			}
		}
	}
	return out, api.OK
}

// converts checks one conversion.
func converts(t *testing.T, from, to layout.Layout, ws []uint64) api.Errno {
	t.Helper()
	before := slices.Clone(ws)
	want, wantErr := converted(from, to, ws)
	out, err := layout.Convert(from, to, ws)
	if err != wantErr || !slices.Equal(out, want) {
		t.Fatalf("%s to %s, %x: %x, %v, want %x, %v", from.Text(), to.Text(), ws, out, err, want, wantErr)
	}
	clear(out[:cap(out)])
	if !slices.Equal(ws, before) {
		t.Fatal("the result shares memory with the argument, or this was changed")
	}
	return err
}

// P12.4: random layouts and words, most of which have small or no values.
func TestConvert(t *testing.T) {
	s := sequence(51)
	count := map[api.Errno]int{}
	for range 20000 {
		a, b := s.fields(), s.fields()
		for i := range b {
			// Often the same types, so that there are conversions without an error.
			at := slices.IndexFunc(a, func(f layout.Field) bool { return f.Name == b[i].Name })
			if at >= 0 && s.below(2) == 0 {
				b[i].Type = a[at].Type
			}
		}
		from, err := layout.New("a", 1, a)
		to, err2 := layout.New("b", 2, b)
		if err != api.OK || err2 != api.OK {
			continue
		}
		ws := make([]uint64, from.Words())
		for range s.below(6) {
			f := a[s.below(len(a))]
			v := s.next() >> s.below(64) >> (64 - types()[f.Type])
			ws, err = from.Set(ws, f.Name, s.below(f.Count), v)
			if err != api.OK {
				t.Fatal(err)
			}
		}
		count[converts(t, from, to, ws)]++
	}
	for _, err := range []api.Errno{api.OK, api.ErrType, api.ErrRange} {
		if count[err] < 1000 {
			t.Error(count)
		}
	}
}

// P12.4: each type to each type, with the numbers at the borders.
func TestConvertOfEachType(t *testing.T) {
	numbers := []uint64{0, 1, 2, 127, 128, 255, 256, 32767, 32768, 65535, 65536, 1<<31 - 1, 1 << 31, 1<<32 - 1, 1 << 32, math.MaxInt64 - 1, math.MaxInt64, top, top + 1, all - 255, all - 1, all}
	for a, width := range types() {
		for b := range types() {
			from := must(t, layout.Field{Name: "x", Type: a, Count: 1})
			to := must(t, layout.Field{Name: "f", Type: layout.Flag, Count: 3}, layout.Field{Name: "x", Type: b, Count: 1})
			for _, v := range numbers {
				if v > all>>(64-width) {
					continue
				}
				err := converts(t, from, to, []uint64{v})
				if (err == api.ErrType) != ((a == layout.Pointer) != (b == layout.Pointer)) {
					t.Error(a, b, v, err)
				}
			}
		}
	}
}

// P12.4: some conversions whose results the chapter gives directly.
func TestConvertByHand(t *testing.T) {
	field := func(name string, typ layout.Type, count int) layout.Field {
		return layout.Field{Name: name, Type: typ, Count: count}
	}
	check := func(from, to layout.Layout, ws, want []uint64, wantErr api.Errno) {
		t.Helper()
		if out, err := layout.Convert(from, to, ws); err != wantErr || !slices.Equal(out, want) {
			t.Errorf("%s to %s, %x: %x, %v, want %x, %v", from.Text(), to.Text(), ws, out, err, want, wantErr)
		}
	}
	i64, u64, u8, flag, pointer := must(t, field("x", layout.I64, 1)), must(t, field("x", layout.U64, 1)), must(t, field("x", layout.U8, 1)), must(t, field("x", layout.Flag, 1)), must(t, field("x", layout.Pointer, 1))
	check(i64, u64, []uint64{math.MaxInt64}, []uint64{math.MaxInt64}, api.OK)
	check(i64, u64, []uint64{all}, nil, api.ErrRange)
	check(i64, i64, []uint64{all}, []uint64{all}, api.OK)
	check(i64, u8, []uint64{255}, []uint64{255}, api.OK)
	check(i64, u8, []uint64{256}, nil, api.ErrRange)
	check(i64, u8, []uint64{all}, nil, api.ErrRange)
	check(i64, flag, []uint64{1}, []uint64{1}, api.OK)
	check(i64, flag, []uint64{2}, nil, api.ErrRange)
	check(i64, flag, []uint64{all}, nil, api.ErrRange)
	check(u64, i64, []uint64{top}, nil, api.ErrRange)
	check(u64, i64, []uint64{math.MaxInt64}, []uint64{math.MaxInt64}, api.OK)
	check(u64, u64, []uint64{all}, []uint64{all}, api.OK)
	// A byte has no sign, and its word's other bits are not its own.
	check(u8, i64, []uint64{0xfff80}, []uint64{128}, api.OK)
	check(u8, u8, []uint64{all}, []uint64{255}, api.OK)
	check(u8, flag, []uint64{2}, nil, api.ErrRange)
	check(pointer, pointer, []uint64{all}, []uint64{all}, api.OK)
	check(pointer, u64, []uint64{0}, nil, api.ErrType)
	check(u64, pointer, []uint64{0}, nil, api.ErrType)
	check(i64, pointer, []uint64{all}, nil, api.ErrType)
	// More and fewer elements.
	three, two, five := must(t, field("x", layout.U16, 3)), must(t, field("x", layout.U32, 2)), must(t, field("x", layout.I64, 5))
	check(three, two, []uint64{7 | 8<<16}, []uint64{7 | 8<<32}, api.OK)
	check(three, two, []uint64{7 | 1<<32}, nil, api.ErrRange)
	check(three, two, []uint64{1 << 47}, nil, api.ErrRange)
	check(three, two, []uint64{1 << 48}, []uint64{0}, api.OK)
	check(three, five, []uint64{7 | 8<<16 | 9<<32 | 10<<48}, []uint64{7, 8, 9, 0, 0}, api.OK)
	check(five, three, []uint64{7, 8, 9, 0, 0}, []uint64{7 | 8<<16 | 9<<32}, api.OK)
	check(five, three, []uint64{7, 8, 9, 0, all}, nil, api.ErrRange)
	check(must(t, field("x", layout.Pointer, 2)), pointer, []uint64{5, 0}, []uint64{5}, api.OK)
	check(must(t, field("x", layout.Pointer, 2)), pointer, []uint64{5, 6}, nil, api.ErrRange)
	check(must(t, field("x", layout.Pointer, 2)), u64, []uint64{5, 6}, nil, api.ErrType)
	// Dropped and added fields, whatever the dropped ones contain.
	old := must(t, field("gone", layout.Pointer, 1), field("x", layout.U8, 1), field("rest", layout.U8, 7))
	check(old, must(t, field("more", layout.U64, 1), field("x", layout.U64, 1)), []uint64{all, 0x0102030405060708}, []uint64{0, 8}, api.OK)
	check(old, must(t, field("more", layout.Pointer, 2)), []uint64{all, all}, []uint64{0, 0}, api.OK)
}

// P12.4: the error of the first field of to that has one.
func TestConvertErrorsInOrder(t *testing.T) {
	p := layout.Field{Name: "p", Type: layout.Pointer, Count: 1}
	u := layout.Field{Name: "u", Type: layout.U64, Count: 1}
	from := must(t, u, p)
	p.Type, u.Type = layout.U64, layout.U8
	ws := []uint64{256, 5}
	for _, c := range []struct {
		to   layout.Layout
		want api.Errno
	}{
		{must(t, p, u), api.ErrType},
		{must(t, u, p), api.ErrRange},
		{must(t, u), api.ErrRange},
		{must(t, p), api.ErrType},
	} {
		if out, err := layout.Convert(from, c.to, ws); err != c.want || len(out) != 0 {
			t.Error(c.to.Text(), out, err)
		}
		for _, n := range []int{0, 1, 3, 60} {
			if out, err := layout.Convert(from, c.to, make([]uint64, n)); err != api.ErrArg || len(out) != 0 {
				t.Error(c.to.Text(), n, out, err)
			}
		}
	}
	// In one field a wrong type comes before a wrong value.
	if _, err := layout.Convert(must(t, layout.Field{Name: "p", Type: layout.Pointer, Count: 2}), must(t, p), []uint64{5, 6}); err != api.ErrType {
		t.Error(err)
	}
}

// P12.4: the zero Layout, and a layout itself.
func TestConvertOfOthers(t *testing.T) {
	var none layout.Layout
	s := sequence(61)
	for range 300 {
		fields := s.fields()
		if _, words := places(fields); words > api.MaxBlock {
			continue
		}
		l := must(t, fields...)
		if out, err := layout.Convert(none, l, nil); err != api.OK || !slices.Equal(out, make([]uint64, l.Words())) {
			t.Fatal(out, err)
		}
		if out, err := layout.Convert(none, l, []uint64{0}); err != api.ErrArg || len(out) != 0 {
			t.Fatal(out, err)
		}
		if out, err := layout.Convert(l, none, s.words(l.Words())); err != api.OK || len(out) != 0 {
			t.Fatal(out, err)
		}
		if out, err := layout.Convert(l, none, nil); err != api.ErrArg || len(out) != 0 {
			t.Fatal(out, err)
		}
		// A layout's own words stay the same, but for the bits that belong to no element.
		ws := s.words(l.Words())
		if converts(t, l, l, ws) != api.OK {
			t.Fatal("a layout to itself", l.Text())
		}
	}
	if out, err := layout.Convert(none, none, nil); err != api.OK || len(out) != 0 {
		t.Error(out, err)
	}
}
