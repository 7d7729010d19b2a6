package image_test

import (
	"fmt"
	"strings"
	"testing"

	"bedrock/api"
	"bedrock/image"
)

const (
	zero  = " 0000000000000000"
	one   = " 0000000000000001"
	large = " 0123456789abcdef"
)

// zeros returns n zero words as text.
func zeros(n int) string {
	return strings.Repeat(zero, n)
}

func TestTextExample(t *testing.T) {
	two, _ := image.Image{}.Resize(2)
	i, _ := two.With(64, 5)
	want := "lines 2\n1: 0000000000000005" + zeros(7) + "\n"
	if i.Text() != want {
		t.Errorf("Text = %q", i.Text())
	}
	if two.Text() != "lines 2\n" {
		t.Errorf("Text of zero lines = %q", two.Text())
	}
}

func TestTextOfManyLines(t *testing.T) {
	i, _ := image.Image{}.Resize(4096)
	i, _ = i.With(8, 0x0123456789abcdef)
	i, _ = i.With(64*10+56, 0xfedcba9876543210)
	i, _ = i.With(64*4095, 1<<63)
	want := "lines 4096\n" +
		"0:" + zero + large + zeros(6) + "\n" +
		"10:" + zeros(7) + " fedcba9876543210\n" +
		"4095: 8000000000000000" + zeros(7) + "\n"
	if i.Text() != want {
		t.Errorf("Text = %q", i.Text())
	}
}

func TestTextHasEveryByte(t *testing.T) {
	for k := range 128 {
		p := make([]byte, 128)
		p[k] = byte(k) | 1
		i := newImage(t, p)
		words := make([]any, 8)
		for w := range words {
			words[w] = uint64(0)
		}
		words[k/8%8] = uint64(p[k]) << (k % 8 * 8)
		want := "lines 2\n" + fmt.Sprint(k/64) + ":" + fmt.Sprintf(strings.Repeat(" %016x", 8), words...) + "\n"
		if i.Text() != want {
			t.Errorf("the byte %d: %q", k, i.Text())
		}
	}
}

func TestParseInvertsText(t *testing.T) {
	for _, lines := range []int{0, 1, 2, 11, 100, 4096} {
		sparse := make([]byte, 64*lines)
		for at := 5; at < len(sparse); at += 333 {
			sparse[at] = byte(at)
		}
		for _, p := range [][]byte{make([]byte, 64*lines), sparse, patterned(lines, 64*lines)} {
			i := newImage(t, p)
			j, n, e := image.Parse(i.Text())
			if e != api.OK || n != 0 || !j.Equal(i) {
				t.Errorf("Parse of %d lines: line %d, %d", lines, n, e)
			}
		}
	}
}

// checkMalformed checks the number of the malformed line, also if more malformed lines follow it.
func checkMalformed(t *testing.T, s string, line int) {
	t.Helper()
	texts := []string{s}
	if strings.HasSuffix(s, "\n") {
		texts = append(texts, s+"x", s+"\n", s+"5: 1\n6:"+zeros(7)+one+"\n")
	}
	for _, text := range texts {
		if i, n, e := image.Parse(text); e != api.ErrForm || n != line || !isZeroImage(i) {
			t.Errorf("Parse(%q): line %d, %d; want line %d", text, n, e, line)
		}
	}
}

func TestMalformedFirstLine(t *testing.T) {
	bad := []string{
		"", "lines", "lines ", "lines 3", "line 3\n", "lines\n", "lines \n", "lines  3\n", "lines 3 \n", " lines 3\n",
		"Lines 3\n", "lines 03\n", "lines 00\n", "lines +3\n", "lines -3\n", "lines -0\n", "lines 0x3\n", "lines 1_0\n",
		"lines 3.\n", "lines 3\r\n", "lines three\n", "lines 4097\n", "lines 10000\n", "lines 18446744073709551617\n",
		"lines 99999999999999999999999999\n", "\n", "\nlines 3\n", "3\n", "lines\t3\n", "lines: 3\n", "lines 3 3\n",
		"0:" + zeros(7) + one + "\n", "lines \xb3\n", "lines ٣\n", "lines 4096",
	}
	for _, s := range bad {
		checkMalformed(t, s, 1)
	}
}

func TestMalformedLines(t *testing.T) {
	good := zeros(7) + one
	bad := []string{
		"\n", "x\n", "1\n", "1:\n", ":" + good + "\n", "1" + good + "\n", "1:" + zeros(8) + "\n", "0:" + zeros(8) + "\n",
		"1:" + zeros(6) + one + "\n", "1:" + zeros(8) + one + "\n", "1: " + good + "\n", "1:" + good + " \n", " 1:" + good + "\n",
		"01:" + good + "\n", "00:" + good + "\n", "+1:" + good + "\n", "-1:" + good + "\n", "-0:" + good + "\n", "0x1:" + good + "\n",
		"3:" + good + "\n", "4:" + good + "\n", "4096:" + good + "\n", "18446744073709551616:" + good + "\n", "1 :" + good + "\n",
		"1:" + good + "\r\n", "1::" + good + "\n", "1:" + good + "0\n", "1:" + good[1:] + "\n", "1:" + good[:135] + "\n",
		"1:" + zeros(7) + " 000000000000000A\n", "1:" + zeros(7) + " 000000000000000g\n", "1:" + zeros(7) + " +00000000000001f\n",
		"1:" + zeros(7) + " -000000000000001\n", "1:" + zeros(7) + " 0x0000000000001f\n", "1:" + zeros(7) + " 0000000000_00001\n",
		"1:" + zeros(7) + "\t0000000000000001\n", "1:" + zeros(7) + "00000000000000001\n", "1:" + zeros(7) + "  000000000000001\n",
		"lines 3\n", "1:" + good, "1:", "1", "1:" + good + "\x00\n", "1:" + zeros(7) + " ffffffffffffffffff\n",
	}
	for _, s := range bad {
		checkMalformed(t, "lines 3\n"+s, 2)
		checkMalformed(t, "lines 3\n0:"+good+"\n"+s, 3)
	}
}

func TestMalformedOrder(t *testing.T) {
	line := func(n int) string {
		return fmt.Sprint(n) + ":" + zeros(7) + large + "\n"
	}
	if _, n, e := image.Parse("lines 5\n" + line(0) + line(2) + line(4)); n != 0 || e != api.OK {
		t.Errorf("ascending lines: line %d, %d", n, e)
	}
	checkMalformed(t, "lines 5\n"+line(0)+line(0), 3)
	checkMalformed(t, "lines 5\n"+line(3)+line(2), 3)
	checkMalformed(t, "lines 5\n"+line(1)+line(2)+line(2)+line(1), 4)
	checkMalformed(t, "lines 5\n"+line(0)+line(1)+line(2)+line(3)+line(4)+line(5), 7)
	checkMalformed(t, "lines 0\n"+line(0), 2)
	checkMalformed(t, "lines 0\n\n", 2)
	checkMalformed(t, "lines 1\n"+line(1), 2)
	checkMalformed(t, "lines 5\n"+line(0)+line(1)+strings.TrimSuffix(line(2), "\n"), 4)
}

// Every text is either that of the image that Parse returns, or malformed.
func TestParseOfChangedTexts(t *testing.T) {
	i, _ := image.Image{}.Resize(12)
	i, _ = i.With(64*1+8, 0xa0)
	i, _ = i.With(64*11, 0x0123456789abcdef)
	text := i.Text()
	for k := range text {
		for _, c := range []byte("0159af:A \n\x00l\xff-+") {
			s := text[:k] + string([]byte{c}) + text[k+1:]
			for _, s := range []string{s, text[:k] + text[k+1:], text[:k] + string([]byte{c}) + text[k:], text[:k]} {
				j, n, e := image.Parse(s)
				if e == api.OK && (n != 0 || j.Text() != s) {
					t.Fatalf("Parse(%q) is the image of %q", s, j.Text())
				}
				if e != api.OK && (e != api.ErrForm || n < 1 || n > 1+strings.Count(s, "\n") || !isZeroImage(j)) {
					t.Fatalf("Parse(%q): line %d, %d", s, n, e)
				}
			}
		}
	}
}
