package pptr_test

import (
	"fmt"
	"math"
	"slices"
	"strings"
	"testing"

	"bedrock/api"
	"bedrock/pptr"
)

// texts returns pointers of all sizes with their texts.
func texts(t *testing.T) map[string]pptr.Ptr {
	all := map[string]pptr.Ptr{"-": 0}
	for _, off := range []uint64{8, 80, 4096, 8 << 20, lastOff} {
		for _, gen := range []uint16{1, 10, 65535} {
			for _, kind := range []uint8{1, 64, 99, 100, 127} {
				all[fmt.Sprintf("%d:%d#%d", kind, off, gen)] = must(t, off, gen, kind)
			}
		}
	}
	return all
}

// P9.3.
func TestTextAndParse(t *testing.T) {
	for text, p := range texts(t) {
		if p.Text() != text {
			t.Errorf("the text of %x is %q, want %q", uint64(p), p.Text(), text)
		}
		if q, err := pptr.Parse(text); q != p || err != api.OK {
			t.Errorf("%q is parsed as %x, %v, want %x", text, uint64(q), err, uint64(p))
		}
	}
}

func TestTextOfNoPointer(t *testing.T) {
	l := append(malformed(), 1, math.MaxUint64, 1<<63, 0xabcdef)
	for _, p := range l {
		want := fmt.Sprintf("0x%016x", uint64(p))
		if p.Text() != want {
			t.Errorf("the text of %x is %q, want %q", uint64(p), p.Text(), want)
		}
		if q, err := pptr.Parse(want); q != 0 || err != api.ErrForm {
			t.Errorf("%q is parsed as %x, %v", want, uint64(q), err)
		}
	}
}

func TestParseErrors(t *testing.T) {
	for _, s := range []string{
		"", " ", "0", "nil", "--", "- ", " -", "-\n", "+", ":", "#", ":#", "3", "3:", "3:80", "3:80#", ":80#2", "3:#2", "3#2", "3#2:80", "80#2",
		"0:80#2", "128:80#2", "255:80#2", "256:80#2", "259:80#2", "1000:80#2", "03:80#2", "003:80#2", "-3:80#2", "+3:80#2", " 3:80#2", "3 :80#2", "0x3:80#2", "3.0:80#2", "3_0:80#2", "c:80#2", "３:80#2",
		"3:0#2", "3:4#2", "3:81#2", "3:080#2", "3:-80#2", "3:+80#2", "3: 80#2", "3:80 #2", "3:8e1#2", "3:0x50#2", "3:8_0#2",
		"3:34359738368#2", "3:34359738367#2", "3:18446744073709551608#2", "3:18446744073709551616#2", "3:18446744073709551696#2", "3:99999999999999999999999999#2",
		"3:80#0", "3:80#02", "3:80#65536", "3:80#65538", "3:80#-2", "3:80#+2", "3:80# 2", "3:80#2 ", "3:80#2\n", "3:80#2\x00", "3:80#2#", "3:80#2#2", "3:80:2", "3:80:#2", "3::80#2", "3:3:80#2", "3:80##2",
		"3：80#2", "3:80#２", "\xff", "3:80#\xff", "0x0000000000000000", "0x0300000200000000", "0x000300020000000a",
		strings.Repeat("0", 10000) + "3:80#2", "3:80#" + strings.Repeat("9", 10000), strings.Repeat("3", 10000), strings.Repeat(":", 10000),
	} {
		if p, err := pptr.Parse(s); p != 0 || err != api.ErrForm {
			t.Errorf("%.40q is parsed as %x, %v", s, uint64(p), err)
		}
	}
}

// Each text is changed at one place: what is parsed then, if anything, has exactly that text.
func TestParseIsTheInverseOfText(t *testing.T) {
	const bytes = "0123456789:#-+_ xa\x00"
	parsed := 0
	for text := range texts(t) {
		var all []string
		for k := range len(text) + 1 {
			for _, b := range []byte(bytes) {
				all = append(all, text[:k]+string(b)+text[k:])
				if k < len(text) {
					all = append(all, text[:k]+string(b)+text[k+1:], text[:k]+text[k+1:])
				}
			}
		}
		slices.Sort(all)
		for _, s := range slices.Compact(all) {
			p, err := pptr.Parse(s)
			switch {
			case err == api.OK && (p.Text() != s || !p.Nil() && !p.Valid(math.MaxUint64)):
				t.Fatalf("%q is parsed as %x with the text %q", s, uint64(p), p.Text())
			case err != api.OK && (err != api.ErrForm || p != 0):
				t.Fatalf("%q is parsed as %x, %v", s, uint64(p), err)
			case err == api.OK:
				parsed++
			}
		}
	}
	if parsed == 0 {
		t.Error("no changed text was parsed")
	}
}

func TestParseOfRandomPointers(t *testing.T) {
	s := sequence(11)
	for range 3000 {
		w := s.next()
		p := pptr.Ptr(w)
		text := fmt.Sprintf("%d:%d#%d", w>>48%256, w%(1<<32)*8, w>>32%(1<<16))
		q, err := pptr.Parse(text)
		if p.Valid(math.MaxUint64) != (p.Text() == text) || p.Valid(math.MaxUint64) && (q != p || err != api.OK) {
			t.Fatalf("%x has the text %q, and %q is parsed as %x, %v", w, p.Text(), text, uint64(q), err)
		}
		low := p & (1<<55 - 1)
		if q, err := pptr.Parse(low.Text()); low.Valid(math.MaxUint64) && (q != low || err != api.OK) {
			t.Fatalf("the text %q is parsed as %x, %v", low.Text(), uint64(q), err)
		}
	}
}
