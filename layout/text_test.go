package layout_test

import (
	"fmt"
	"reflect"
	"slices"
	"strings"
	"testing"

	"bedrock/api"
	"bedrock/layout"
)

// typeName returns the name of a type in texts, as the chapter lists them.
func typeName(t layout.Type) string {
	return strings.Split("? u64 i64 u32 u16 u8 flag pointer", " ")[t]
}

// text returns the text of a layout as the chapter describes it.
func text(name string, version int, fields []layout.Field) string {
	s := fmt.Sprintf("%s v%d {", name, version)
	for _, f := range fields {
		s += " " + f.Name + " " + typeName(f.Type)
		if f.Count != 1 {
			s += fmt.Sprintf("[%d]", f.Count)
		}
		s += ";"
	}
	return s + " }"
}

// malformed checks that s is no text.
func malformed(t *testing.T, s string) {
	t.Helper()
	if l, err := layout.Parse(s); err != api.ErrForm || !isZero(l) {
		t.Fatalf("Parse(%.300q): %v, %v", s, l.Text(), err)
	}
}

// P12.3.
func TestTextAndParse(t *testing.T) {
	s := sequence(31)
	for range 3000 {
		fields := s.fields()
		version := 1 + s.below(65535)
		if s.below(3) == 0 {
			version = 1 + s.below(20)
		}
		name := []string{"n", "node", "v", "v1", "A_0123456789_bcd", "pointer"}[s.below(6)]
		want := text(name, version, fields)
		l, err := layout.New(name, version, fields)
		if err != api.OK {
			malformed(t, want)
			continue
		}
		if l.Text() != want {
			t.Fatalf("Text is %q, want %q", l.Text(), want)
		}
		p, err := layout.Parse(want)
		if err != api.OK || p.Text() != want || p.Name() != name || p.Version() != version || p.Words() != l.Words() || !slices.Equal(p.Slots(), l.Slots()) || !reflect.DeepEqual(p, l) {
			t.Fatalf("Parse(%q): %v, %q", want, err, p.Text())
		}
	}
}

// P12.3: each type with one, two and most elements.
func TestTextOfEachType(t *testing.T) {
	for typ, width := range types() {
		for _, count := range []int{1, 2, 9, 10, 60 * 64 / width} {
			fields := []layout.Field{{Name: "x", Type: typ, Count: count}}
			want := text("node", 1, fields)
			l := must(t, fields...)
			p, err := layout.Parse(want)
			if l.Text() != want || err != api.OK || !slices.Equal(p.Slots(), l.Slots()) {
				t.Error(l.Text(), err, p.Text())
			}
		}
	}
	for _, s := range []string{"a v65535 { v u8; }", "u8 v1 { u8 u8; u16 u8[2]; flag pointer; }", "v v10 { v1 flag; v2 flag; }"} {
		if l, err := layout.Parse(s); err != api.OK || l.Text() != s {
			t.Error(s, err, l.Text())
		}
	}
}

// P12.3: the text of the zero Layout.
func TestEmptyText(t *testing.T) {
	if l, err := layout.Parse(""); err != api.OK || !isZero(l) {
		t.Error(l, err)
	}
}

// P12.3: texts of layouts that do not exist.
func TestParseOfOtherLayouts(t *testing.T) {
	for _, s := range []string{
		"1 v1 { a u8; }", " v1 { a u8; }", "_ v1 { a u8; }", "abcdefghijklmnopq v1 { a u8; }", "a-b v1 { a u8; }", "é v1 { a u8; }",
		"n v0 { a u8; }", "n v65536 { a u8; }", "n v99999999999999999999 { a u8; }", "n v18446744073709551617 { a u8; }", "n v-1 { a u8; }",
		"n v1 { }", "n v1 {}", "n v1 {  }",
		"n v1 { 1 u8; }", "n v1 {  u8; }", "n v1 { abcdefghijklmnopq u8; }", "n v1 { a-b u8; }",
		"n v1 { a u8[0]; }", "n v1 { a u8[-1]; }", "n v1 { a u8[-0]; }", "n v1 { a u8[1]; }", "n v1 { a u8[01]; }", "n v1 { a u8[02]; }", "n v1 { a u8[+2]; }", "n v1 { a u8[ 2]; }", "n v1 { a u8[2 ]; }", "n v1 { a u8[1_0]; }", "n v1 { a u8[0x2]; }", "n v1 { a u8[]; }", "n v1 { a u8[a]; }",
		"n v1 { a u8[481]; }", "n v1 { a u64[61]; }", "n v1 { a u64[9223372036854775807]; }", "n v1 { a u64[9223372036854775808]; }", "n v1 { a u64[18446744073709551618]; }", "n v1 { a u64[99999999999999999999]; }",
		"n v1 { a u8; a u8; }", "n v1 { a u8; b u8; a flag; }", "n v1 { a u64[60]; b flag; }",
		"n v1 { a u7; }", "n v1 { a U8; }", "n v1 { a ; }", "n v1 { a; }", "n v1 { a ?; }", "n v1 { a u8u8; }", "n v1 { a flags; }", "n v1 { a i32; }", "n v1 { a u; }",
	} {
		malformed(t, s)
	}
}

// P12.3: other ways to write a layout.
func TestParseOfOtherTexts(t *testing.T) {
	for _, s := range []string{
		"n", "n v", "n v1", "n v1 ", "n v1 {", "n v1 { ", "n v1 { a", "n v1 { a u8", "n v1 { a u8;", "n v1 { a u8; ", "n v1 { a u8 }", "n v1 { a u8; }\n", "n v1 { a u8; } ", "n v1 { a u8; }}", "n v1 { a u8; };", "n v1 { a u8; } }", "n v1 { a u8; }n v1 { a u8; }",
		" n v1 { a u8; }", "n  v1 { a u8; }", "n v 1 { a u8; }", "n v1  { a u8; }", "n v1 {a u8; }", "n v1 {  a u8; }", "n v1 { a  u8; }", "n v1 { a u8 ; }", "n v1 { a u8;}", "n v1 { a u8;  }", "n v1 { a u8;; }", "n v1 { ; a u8; }", "n v1 {; a u8; }", "n v1 { a u8;b u8; }", "n v1 { a u8;  b u8; }", "n v1 { a u8, b u8; }", "n v1{ a u8; }", "n v1 { a\tu8; }", "n\tv1 { a u8; }",
		"n v01 { a u8; }", "n v+1 { a u8; }", "n v1_0 { a u8; }", "n v0x1 { a u8; }", "n V1 { a u8; }", "n 1 { a u8; }", "n v { a u8; }", "n v1.0 { a u8; }", "nv1 { a u8; }", "v1 { a u8; }", "{ a u8; }", "a u8;", "}", " }", " ", "\n", "\x00", ";", "n v1 [ a u8; ]",
		"n v1 { a u8[2; }", "n v1 { a u82]; }", "n v1 { a u8[2]]; }", "n v1 { a u8[[2]; }", "n v1 { a u8 [2]; }", "n v1 { a[2] u8; }", "n v1 { a u8[2]x; }", "n v1 { a u8[2][2]; }", "n v1 { [2]; }", "n v1 { u8[2]; }", "n v1 { u8; }",
	} {
		malformed(t, s)
	}
	// One field too many, and the most that there are.
	fields := make([]layout.Field, 3841)
	for i := range fields {
		fields[i] = layout.Field{Name: fmt.Sprintf("f%d", i), Type: layout.Flag, Count: 1}
	}
	malformed(t, text("n", 1, fields))
	if l, err := layout.Parse(text("n", 1, fields[:3840])); err != api.OK || len(l.Slots()) != 3840 || l.Slots()[3839].Field != fields[3839] {
		t.Error(err)
	}
	for _, s := range []string{" ", ";", " a u8;", "n v1 {", " v", "[", "n v1 { a u8", "a"} {
		malformed(t, strings.Repeat(s, 10000))
	}
}

// P12.3: what differs from a text by one byte is another layout's text or none.
func TestParseOfChangedTexts(t *testing.T) {
	s := "ab v10 { f flag[12]; p pointer; u u64; }"
	if _, err := layout.Parse(s); err != api.OK {
		t.Fatal(err)
	}
	check := func(changed string) {
		t.Helper()
		l, err := layout.Parse(changed)
		if err != api.OK {
			malformed(t, changed)
		} else if l.Text() != changed {
			t.Fatalf("Parse(%q) has the text %q", changed, l.Text())
		}
	}
	for at := range len(s) {
		check(s[:at])
		check(s[at:])
		check(s[:at] + s[at+1:])
		for c := range 256 {
			check(s[:at] + string([]byte{byte(c)}) + s[at+1:])
			check(s[:at] + string([]byte{byte(c)}) + s[at:])
		}
	}
}
