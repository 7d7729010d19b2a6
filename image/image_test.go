package image_test

import (
	"bytes"
	"hash/crc32"
	"math"
	"slices"
	"testing"

	"bedrock/api"
	"bedrock/device"
	"bedrock/image"
)

// patterned returns n bytes of a pattern in which neighbours, the words of a line, and neighbouring lines differ.
func patterned(seed, n int) []byte {
	p := make([]byte, n)
	for i := range p {
		p[i] = byte(i*37 + i/64*11 + seed*101 + 1)
	}
	return p
}

func newImage(t *testing.T, p []byte) image.Image {
	t.Helper()
	i, e := image.New(p)
	if e != api.OK {
		t.Fatalf("New of %d bytes: %d", len(p), e)
	}
	return i
}

func isZeroImage(i image.Image) bool {
	return i.Lines() == 0 && len(i.Bytes()) == 0 && i.Equal(image.Image{})
}

func TestNew(t *testing.T) {
	for _, lines := range []int{1, 2, 5, 4096} {
		p := patterned(lines, 64*lines)
		i := newImage(t, p)
		if i.Lines() != lines || !bytes.Equal(i.Bytes(), p) {
			t.Errorf("New of %d lines", lines)
		}
	}
	if !isZeroImage(newImage(t, nil)) || !isZeroImage(newImage(t, []byte{})) {
		t.Error("New of no bytes")
	}
	cases := []struct {
		size int
		want api.Errno
	}{
		{1, api.ErrForm},
		{8, api.ErrForm},
		{63, api.ErrForm},
		{65, api.ErrForm},
		{64*4096 + 1, api.ErrForm},
		{64*4096 + 64, api.ErrArg},
		{64 * 9000, api.ErrArg},
	}
	for _, c := range cases {
		if i, e := image.New(make([]byte, c.size)); e != c.want || !isZeroImage(i) {
			t.Errorf("New of %d bytes: %d, want %d", c.size, e, c.want)
		}
	}
}

func TestZeroImage(t *testing.T) {
	var i image.Image
	if !isZeroImage(i) || i.Sum() != 0 || i.Text() != "lines 0\n" || len(i.Diff(i)) != 0 {
		t.Error("the zero Image")
	}
	if w, e := i.Word(0); w != 0 || e != api.ErrRange {
		t.Errorf("Word(0) = %d, %d", w, e)
	}
	if j, e := i.With(0, 1); e != api.ErrRange || !isZeroImage(j) {
		t.Errorf("With(0, 1): %d", e)
	}
}

func TestImagesShareNoMemory(t *testing.T) {
	p := patterned(1, 128)
	want := bytes.Clone(p)
	i := newImage(t, p)
	clear(p)
	if !bytes.Equal(i.Bytes(), want) {
		t.Fatal("the image shares memory with the argument of New")
	}
	clear(i.Bytes())
	_ = append(i.Bytes()[:64], 1, 2, 3)
	if !bytes.Equal(i.Bytes(), want) {
		t.Fatal("the image shares memory with the result of Bytes")
	}
	d, _ := i.Device()
	d.Thread(0).Store(0, 1)
	d.WriteBack(0, 1)
	if !bytes.Equal(i.Bytes(), want) {
		t.Fatal("the image shares memory with its device")
	}
}

func TestOf(t *testing.T) {
	if !isZeroImage(image.Of(nil)) {
		t.Error("Of(nil)")
	}
	p := patterned(2, 192)
	d, _ := device.From(p)
	a := d.Thread(0)
	a.Store(0, 1)
	a.Store(64, 2)
	if !bytes.Equal(image.Of(d).Bytes(), p) {
		t.Error("Of has stores that are not persistent")
	}
	a.Flush(64)
	a.Fence()
	i := image.Of(d)
	if !bytes.Equal(i.Bytes(), d.Persisted()) || bytes.Equal(i.Bytes(), p) {
		t.Error("Of lacks a persistent store")
	}
	d.WriteBack(0, 1)
	if w, e := i.Word(0); w == 1 || e != api.OK {
		t.Error("an image has changed with its device")
	}
	d.Arm(0)
	a.Fence()
	if !image.Of(d).Equal(newImage(t, d.Persisted())) {
		t.Error("Of an off device")
	}
}

func TestWord(t *testing.T) {
	p := patterned(3, 192)
	i := newImage(t, p)
	for off := range uint64(300) {
		want, wantErr := uint64(0), api.OK
		switch {
		case off%8 != 0:
			wantErr = api.ErrArg
		case off >= 192:
			wantErr = api.ErrRange
		default:
			for k := range uint64(8) {
				want += uint64(p[off+k]) << (8 * k)
			}
		}
		if w, e := i.Word(off); w != want || e != wantErr {
			t.Errorf("Word(%d) = %x, %d; want %x, %d", off, w, e, want, wantErr)
		}
	}
}

func TestOffsetsFarOutside(t *testing.T) {
	i := newImage(t, patterned(4, 64))
	cases := []struct {
		off  uint64
		want api.Errno
	}{
		{64, api.ErrRange},
		{1 << 32, api.ErrRange},
		{1 << 63, api.ErrRange},
		{math.MaxUint64 - 7, api.ErrRange},
		{math.MaxUint64, api.ErrArg},
		{1<<32 + 4, api.ErrArg},
		{1<<63 + 1, api.ErrArg},
		{7, api.ErrArg},
		{65, api.ErrArg},
	}
	for _, c := range cases {
		if w, e := i.Word(c.off); w != 0 || e != c.want {
			t.Errorf("Word(%d) = %d, %d; want %d", c.off, w, e, c.want)
		}
		if j, e := i.With(c.off, 1); e != c.want || !isZeroImage(j) {
			t.Errorf("With(%d, 1): %d; want %d", c.off, e, c.want)
		}
	}
}

func TestWith(t *testing.T) {
	p := patterned(5, 128)
	i := newImage(t, p)
	for off := uint64(0); off < 128; off += 8 {
		j, e := i.With(off, 0xf1e2d3c4b5a69788)
		want := bytes.Clone(p)
		copy(want[off:], []byte{0x88, 0x97, 0xa6, 0xb5, 0xc4, 0xd3, 0xe2, 0xf1})
		if e != api.OK || !bytes.Equal(j.Bytes(), want) {
			t.Errorf("With(%d): %d", off, e)
		}
		if !bytes.Equal(i.Bytes(), p) {
			t.Fatalf("With(%d) has changed its image", off)
		}
		w, _ := i.Word(off)
		if same, e := i.With(off, w); e != api.OK || !same.Equal(i) {
			t.Errorf("With(%d) of the present word: %d", off, e)
		}
	}
}

func TestResize(t *testing.T) {
	p := patterned(6, 192)
	i := newImage(t, p)
	for _, lines := range []int{0, 1, 2, 3, 4, 9, 4096} {
		j, e := i.Resize(lines)
		want := make([]byte, 64*lines)
		copy(want, p)
		if e != api.OK || j.Lines() != lines || !bytes.Equal(j.Bytes(), want) {
			t.Errorf("Resize(%d): %d", lines, e)
		}
	}
	for _, lines := range []int{math.MinInt, -1, 4097, 1 << 32, 1 << 58, math.MaxInt} {
		if j, e := i.Resize(lines); e != api.ErrArg || !isZeroImage(j) {
			t.Errorf("Resize(%d): %d", lines, e)
		}
	}
	if !bytes.Equal(i.Bytes(), p) {
		t.Error("Resize has changed its image")
	}
	// What a smaller image has lost does not come back.
	small, _ := i.Resize(1)
	large, _ := small.Resize(3)
	if !bytes.Equal(large.Bytes()[64:], make([]byte, 128)) || !bytes.Equal(large.Bytes()[:64], p[:64]) {
		t.Error("Resize(1), Resize(3)")
	}
	if j, e := (image.Image{}).Resize(2); e != api.OK || !bytes.Equal(j.Bytes(), make([]byte, 128)) {
		t.Error("Resize of the zero Image")
	}
}

func TestEqual(t *testing.T) {
	p := patterned(7, 128)
	i := newImage(t, p)
	if !i.Equal(i) || !i.Equal(newImage(t, bytes.Clone(p))) {
		t.Error("equal images")
	}
	for k := range p {
		q := bytes.Clone(p)
		q[k] ^= 1 << (k % 8)
		if j := newImage(t, q); i.Equal(j) || j.Equal(i) {
			t.Errorf("images that differ in the byte %d", k)
		}
	}
	zeros, _ := image.Image{}.Resize(2)
	for lines := range 5 {
		other, _ := image.Image{}.Resize(lines)
		if zeros.Equal(other) != (lines == 2) || other.Equal(zeros) != (lines == 2) {
			t.Errorf("images of 2 and %d zero lines", lines)
		}
	}
}

func TestDiff(t *testing.T) {
	p := patterned(8, 64*6)
	i := newImage(t, p)
	for mask := range 64 {
		q := bytes.Clone(p)
		var want []int
		for n := range 6 {
			if mask>>n&1 == 1 {
				q[64*n+(mask*11+n*17)%64] ^= 0x40
				want = append(want, n)
			}
		}
		j := newImage(t, q)
		if got := i.Diff(j); !slices.Equal(got, want) {
			t.Errorf("Diff = %v, want %v", got, want)
		}
		shorter, _ := j.Resize(4)
		want = append(slices.DeleteFunc(want, func(n int) bool { return n >= 4 }), 4, 5)
		if got := i.Diff(shorter); !slices.Equal(got, want) {
			t.Errorf("Diff of a shorter image = %v, want %v", got, want)
		}
		if got := shorter.Diff(i); !slices.Equal(got, want) {
			t.Errorf("Diff of a longer image = %v, want %v", got, want)
		}
	}
}

func TestDiffOfZeroLines(t *testing.T) {
	one, _ := image.Image{}.Resize(1)
	two, _ := image.Image{}.Resize(2)
	if got := one.Diff(two); !slices.Equal(got, []int{1}) {
		t.Errorf("Diff of one and two zero lines = %v", got)
	}
	if got := (image.Image{}).Diff(two); !slices.Equal(got, []int{0, 1}) {
		t.Errorf("Diff of no and two zero lines = %v", got)
	}
	got := two.Diff(image.Image{})
	clear(got)
	if got = two.Diff(image.Image{}); !slices.Equal(got, []int{0, 1}) {
		t.Errorf("Diff of two and no zero lines = %v", got)
	}
}

func TestSum(t *testing.T) {
	table := crc32.MakeTable(crc32.Castagnoli)
	for _, lines := range []int{0, 1, 2, 33} {
		for _, p := range [][]byte{patterned(lines, 64*lines), make([]byte, 64*lines)} {
			if got, want := newImage(t, p).Sum(), crc32.Checksum(p, table); got != want {
				t.Errorf("Sum of %d lines = %x, want %x", lines, got, want)
			}
		}
	}
}

func TestDevice(t *testing.T) {
	if d, e := (image.Image{}).Device(); d != nil || e != api.ErrArg {
		t.Errorf("Device of the zero Image: %d", e)
	}
	p := patterned(9, 192)
	i := newImage(t, p)
	d, e := i.Device()
	if e != api.OK || !bytes.Equal(d.Persisted(), p) || !bytes.Equal(d.Current(), p) || len(d.Dirty()) != 0 || d.Off() || d.Executed() != 0 {
		t.Errorf("Device: %d", e)
	}
	again, _ := i.Device()
	d.Thread(0).Store(0, 1)
	if again == d || !bytes.Equal(again.Current(), p) {
		t.Error("two calls return the same device")
	}
	if !image.Of(again).Equal(i) {
		t.Error("Of(Device)")
	}
}
