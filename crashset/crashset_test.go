package crashset_test

import (
	"bytes"
	"math"
	"slices"
	"testing"

	"bedrock/api"
	"bedrock/crashset"
	"bedrock/device"
	"bedrock/image"
)

func collect(d *device.Device, limit int) [][]byte {
	var all [][]byte
	for i := range crashset.All(d, limit) {
		all = append(all, i.Bytes())
	}
	return all
}

func equalImages(a, b [][]byte) bool {
	return slices.EqualFunc(a, b, bytes.Equal)
}

// P5.1 to P5.4, P5.6: every function agrees with the definition, for every combination.
func TestCombinations(t *testing.T) {
	for _, d := range devices(t) {
		want := images(d)
		count := len(want)
		if n, exact := crashset.Count(d); n != uint64(count) || !exact {
			t.Fatalf("Count = %d, %t, want %d", n, exact, count)
		}
		for n, p := range want {
			checkCombination(t, d, uint64(n), p, indexOf(want, p))
		}
		for _, n := range []uint64{uint64(count), uint64(count) + 1, 1 << 62, math.MaxUint64} {
			checkNoCombination(t, d, n)
		}
		if !equalImages(collect(d, math.MaxInt), want) || !equalImages(collect(d, count), want) || !equalImages(collect(d, count-1), want[:count-1]) {
			t.Fatal("All")
		}
	}
}

func checkCombination(t *testing.T, d *device.Device, n uint64, want []byte, index int) {
	t.Helper()
	i, e := crashset.At(d, n)
	if e != api.OK || !bytes.Equal(i.Bytes(), want) {
		t.Fatalf("At(%d): %d, %x, want %x", n, e, i.Bytes(), want)
	}
	if !crashset.Possible(d, i) {
		t.Fatalf("the image At(%d) is not Possible", n)
	}
	k, is := crashset.Index(d, i)
	if k != uint64(index) || !is {
		t.Fatalf("Index of At(%d) = %d, %t, want %d", n, k, is, index)
	}
	if j, e := crashset.At(d, k); e != api.OK || !j.Equal(i) {
		t.Fatalf("At(%d) is another image than that of Index", k)
	}
	c, e := crashset.Choice(d, n)
	if e != api.OK || len(c) != len(d.Dirty()) || !bytes.Equal(d.Image(c), want) {
		t.Fatalf("Choice(%d) = %v, %d", n, c, e)
	}
}

func checkNoCombination(t *testing.T, d *device.Device, n uint64) {
	t.Helper()
	if i, e := crashset.At(d, n); e != api.ErrRange || i.Lines() != 0 {
		t.Fatalf("At(%d): %d, %d lines", n, e, i.Lines())
	}
	if c, e := crashset.Choice(d, n); e != api.ErrRange || len(c) != 0 {
		t.Fatalf("Choice(%d): %d, %v", n, e, c)
	}
}

// P5.5.
func TestDistinct(t *testing.T) {
	for _, d := range devices(t) {
		all := images(d)
		for _, limit := range []int{len(all), len(all) + 1, math.MaxInt} {
			if n, e := crashset.Distinct(d, limit); n != different(all) || e != api.OK {
				t.Fatalf("Distinct = %d, %d, want %d", n, e, different(all))
			}
		}
		for _, limit := range []int{len(all) - 1, 0, -1, math.MinInt} {
			if n, e := crashset.Distinct(d, limit); n != 0 || e != api.ErrLimit {
				t.Fatalf("Distinct with the limit %d of %d: %d, %d", limit, len(all), n, e)
			}
		}
	}
	if n, e := crashset.Distinct(oneStoreEach(t, 62), 1<<62); n != 1<<62 || e != api.OK {
		t.Errorf("Distinct of 2^62 combinations: %d, %d", n, e)
	}
	if n, e := crashset.Distinct(oneStoreEach(t, 62), 1<<62-1); n != 0 || e != api.ErrLimit {
		t.Errorf("Distinct below 2^62: %d, %d", n, e)
	}
	for _, lines := range []int{63, 64, 65, 128} {
		if n, e := crashset.Distinct(oneStoreEach(t, lines), math.MaxInt); n != 0 || e != api.ErrLimit {
			t.Errorf("Distinct of 2^%d combinations: %d, %d", lines, n, e)
		}
	}
}

// A content that comes back counts once, also if other contents lie between; stores of what is there already add none.
func TestDistinctContents(t *testing.T) {
	d := newDevice(t, 3)
	for _, v := range []uint64{0, 1, 0, 2, 1, 1, 0} {
		d.Thread(0).Store(128, v)
	}
	if n, e := crashset.Distinct(d, 8); n != 3 || e != api.OK {
		t.Errorf("Distinct = %d, %d", n, e)
	}
	d.Thread(1).Store(0, 0)
	if n, e := crashset.Distinct(d, 16); n != 3 || e != api.OK {
		t.Errorf("Distinct with an idle store = %d, %d", n, e)
	}
	d.Thread(1).Store(8, 5)
	if n, e := crashset.Distinct(d, 24); n != 6 || e != api.OK {
		t.Errorf("Distinct of two lines = %d, %d", n, e)
	}
}

func TestNil(t *testing.T) {
	none := image.Image{}
	if n, exact := crashset.Count(nil); n != 0 || !exact {
		t.Errorf("Count = %d, %t", n, exact)
	}
	if i, e := crashset.At(nil, 0); e != api.ErrArg || !i.Equal(none) {
		t.Errorf("At: %d", e)
	}
	if len(collect(nil, 5)) != 0 {
		t.Error("All yields")
	}
	if crashset.Possible(nil, none) {
		t.Error("Possible")
	}
	if n, is := crashset.Index(nil, none); n != 0 || is {
		t.Errorf("Index = %d, %t", n, is)
	}
	if c, e := crashset.Choice(nil, 0); e != api.ErrArg || len(c) != 0 {
		t.Errorf("Choice: %d", e)
	}
	for _, limit := range []int{5, 0, -1} {
		if n, e := crashset.Distinct(nil, limit); e != api.ErrArg || n != 0 {
			t.Errorf("Distinct: %d", e)
		}
	}
}

func TestWithoutHistories(t *testing.T) {
	p := make([]byte, 128)
	p[9] = 7
	d, _ := device.From(p)
	if n, exact := crashset.Count(d); n != 1 || !exact {
		t.Errorf("Count = %d, %t", n, exact)
	}
	checkCombination(t, d, 0, p, 0)
	checkNoCombination(t, d, 1)
	if n, e := crashset.Distinct(d, 1); n != 1 || e != api.OK {
		t.Errorf("Distinct = %d, %d", n, e)
	}
	if c, _ := crashset.Choice(d, 0); len(c) != 0 {
		t.Errorf("Choice = %v", c)
	}
	if !equalImages(collect(d, 3), [][]byte{p}) {
		t.Error("All")
	}
}

// P5.1: the number of combinations around 2^62 and beyond 2^64, where products wrap.
func TestCountBorders(t *testing.T) {
	cases := []struct {
		lines, stores int
		want          uint64
		exact         bool
	}{
		{61, 1, 1 << 61, true},
		{62, 1, 1 << 62, true},
		{63, 1, 1 << 62, false},
		{64, 1, 1 << 62, false},
		{65, 1, 1 << 62, false},
		{200, 1, 1 << 62, false},
		{4096, 1, 1 << 62, false},
		{39, 2, 4052555153018976267, true}, // 3^39
		{40, 2, 1 << 62, false},
		{31, 3, 1 << 62, true}, // 4^31
		{32, 3, 1 << 62, false},
		{2, 65535, 1 << 32, true},
		{4, 65535, 1 << 62, false},
	}
	for _, c := range cases {
		if n, exact := crashset.Count(sameHistories(t, c.lines, c.stores)); n != c.want || exact != c.exact {
			t.Errorf("Count of %d histories of %d stores = %d, %t, want %d, %t", c.lines, c.stores, n, exact, c.want, c.exact)
		}
	}
	// 3 * 2^61 is greater than 2^62 and below 2^64.
	d := oneStoreEach(t, 62)
	d.Thread(0).Store(8, 1)
	if n, exact := crashset.Count(d); n != 1<<62 || exact {
		t.Errorf("Count = %d, %t", n, exact)
	}
}

// P5.1: numbers of combinations are any that there are; the last line's digit is the lowest.
func TestAtBorders(t *testing.T) {
	bits := func(n uint64, lines int) []byte {
		p := make([]byte, lines)
		for k := range p {
			if shift := lines - 1 - k; shift < 64 {
				p[k] = byte(n >> shift & 1)
			}
		}
		return p
	}
	for _, lines := range []int{62, 63, 64, 65, 100} {
		d := oneStoreEach(t, lines)
		for _, n := range []uint64{0, 1, 5, 1<<62 - 1, 1 << 62, 1<<62 + 1, 1<<63 - 1, 1 << 63, math.MaxUint64 - 1, math.MaxUint64} {
			i, e := crashset.At(d, n)
			c, f := crashset.Choice(d, n)
			if lines < 64 && n >= 1<<lines {
				checkNoCombination(t, d, n)
				continue
			}
			if e != api.OK || !bytes.Equal(firstBytes(i), bits(n, lines)) {
				t.Errorf("At(%d) of %d lines: %d", n, lines, e)
			}
			if f != api.OK || !bytes.Equal(c, bits(n, lines)) {
				t.Errorf("Choice(%d) of %d lines: %d, %v", n, lines, f, c)
			}
		}
	}
}

// P5.3: an image can be possible although its number is too great to be returned.
func TestIndexBorders(t *testing.T) {
	for _, lines := range []int{62, 63, 64, 65, 66, 130} {
		d := oneStoreEach(t, lines)
		all := make([]byte, 64*lines)
		for n := range lines {
			all[64*n] = 1
		}
		checkIndex(t, d, all, 1<<62-1, lines <= 62)
		// The image without the stores of the highest lines has a small number, however many lines there are.
		clear(all[:max(0, 64*(lines-62))])
		checkIndex(t, d, all, 1<<62-1, true)
		if lines > 62 {
			clear(all)
			all[64*(lines-63)] = 1
			checkIndex(t, d, all, 0, false)
			// 2^62 + 1.
			all[64*(lines-1)] = 1
			checkIndex(t, d, all, 0, false)
		}
	}
	// With digits of the base 3 the border is not one of a power.
	d := sameHistories(t, 40, 2)
	for _, n := range []uint64{1<<62 - 1, 1 << 62, 1<<62 + 1, 1 << 63, 12157665459056928800} { // the last one is 3^40 - 1
		i, _ := crashset.At(d, n)
		checkIndex(t, d, i.Bytes(), n, n < 1<<62)
	}
}

func checkIndex(t *testing.T, d *device.Device, p []byte, want uint64, is bool) {
	t.Helper()
	if !is {
		want = 0
	}
	i := newImage(t, p)
	if n, got := crashset.Index(d, i); n != want || got != is {
		t.Errorf("Index of %d lines = %d, %t, want %d, %t", i.Lines(), n, got, want, is)
	}
	if !crashset.Possible(d, i) {
		t.Errorf("an image of %d lines is not Possible", i.Lines())
	}
}

// P5.3: images that are not crash images.
func TestImpossible(t *testing.T) {
	p := make([]byte, 192)
	p[64] = 9
	d, _ := device.From(p)
	d.Thread(0).Store(0, 1)
	d.Thread(0).Store(8, 2)
	d.Thread(0).Store(8, 3)
	d.Thread(0).Store(128, 4)
	with := func(changes ...uint64) image.Image {
		i := image.Of(d)
		for k := 0; k < len(changes); k += 2 {
			i, _ = i.With(changes[k], changes[k+1])
		}
		return i
	}
	for _, i := range []image.Image{with(), with(0, 1), with(0, 1, 8, 2), with(0, 1, 8, 3), with(128, 4), with(0, 1, 8, 3, 128, 4)} {
		if !crashset.Possible(d, i) {
			t.Errorf("not Possible: %s", i.Text())
		}
	}
	longer, _ := with().Resize(4)
	shorter, _ := with().Resize(2)
	for _, i := range []image.Image{
		with(8, 2), with(8, 3), with(0, 2), with(0, 1, 8, 4), with(0, 1, 16, 1), with(128, 3), with(136, 4), with(184, 1),
		with(64, 8), with(64, 0), with(120, 1), with(0, 1, 64, 8), with(0, 1<<32|1), longer, shorter, {},
	} {
		if crashset.Possible(d, i) {
			t.Errorf("Possible: %s", i.Text())
		}
		if n, is := crashset.Index(d, i); n != 0 || is {
			t.Errorf("Index = %d, %t of %s", n, is, i.Text())
		}
	}
}

// P5.4: a choice is a byte for each line.
func TestChoiceOfLongHistories(t *testing.T) {
	d := newDevice(t, 2)
	d.Thread(0).Store(0, 1)
	for v := range 255 {
		d.Thread(0).Store(64, uint64(v+1))
	}
	for _, n := range []uint64{0, 255, 256, 511} {
		i, _ := crashset.At(d, n)
		c, e := crashset.Choice(d, n)
		if e != api.OK || !bytes.Equal(c, []byte{byte(n / 256), byte(n % 256)}) || !bytes.Equal(d.Image(c), i.Bytes()) {
			t.Errorf("Choice(%d) = %v, %d", n, c, e)
		}
	}
	checkNoCombination(t, d, 512)
	d.Thread(0).Store(72, 1)
	for _, n := range []uint64{0, 1, 513} {
		if c, e := crashset.Choice(d, n); e != api.ErrLimit || len(c) != 0 {
			t.Errorf("Choice(%d) of a history of 256 stores: %d, %v", n, e, c)
		}
		if _, e := crashset.At(d, n); e != api.OK {
			t.Errorf("At(%d): %d", n, e)
		}
	}
	checkNoCombination(t, d, 514)
}

// P5.2: the limit, leaving the loop, repeated iteration, and when the device is examined.
func TestAll(t *testing.T) {
	d := newDevice(t, 2)
	d.Thread(0).Store(0, 1)
	d.Thread(0).Store(64, 2)
	want := images(d)
	for _, limit := range []int{0, -1, math.MinInt} {
		if len(collect(d, limit)) != 0 {
			t.Errorf("All with the limit %d yields", limit)
		}
	}
	for limit := range 7 {
		if !equalImages(collect(d, limit), want[:min(limit, 4)]) {
			t.Errorf("All with the limit %d", limit)
		}
	}
	for stop := 1; stop <= 4; stop++ {
		calls := 0
		crashset.All(d, 10)(func(image.Image) bool {
			calls++
			return calls < stop
		})
		if calls != stop {
			t.Errorf("All goes on: %d calls instead of %d", calls, stop)
		}
	}
	all := crashset.All(d, 10)
	d.Thread(0).Store(72, 5)
	for _, count := range []int{6, 9, 3} {
		want := images(d)
		n := 0
		for i := range all {
			if !bytes.Equal(i.Bytes(), want[n]) {
				t.Errorf("All yields another image %d than that of the device", n)
			}
			n++
		}
		if n != count {
			t.Errorf("All yields %d images instead of %d", n, count)
		}
		d.Thread(0).Store(8, 1)
		if count == 9 {
			d.WriteBack(0, 3)
		}
	}
}

// Two iterations over one device at the same time do not disturb each other.
func TestAllNested(t *testing.T) {
	d := sameHistories(t, 2, 2)
	want := images(d)
	all := crashset.All(d, 9)
	n := 0
	for i := range all {
		k := 0
		for j := range all {
			if !bytes.Equal(j.Bytes(), want[k]) {
				t.Fatalf("the inner image %d", k)
			}
			k++
		}
		if k != 9 || !bytes.Equal(i.Bytes(), want[n]) {
			t.Fatalf("the outer image %d", n)
		}
		n++
	}
	if n != 9 {
		t.Errorf("%d outer images", n)
	}
}

// P5.6: every image of the device is possible, and nothing else is.
func TestPossibleExactly(t *testing.T) {
	s := sequence(5)
	for _, d := range devices(t) {
		all := images(d)
		for range 10 {
			choice := []byte{byte(s.below(256)), byte(s.below(256)), byte(s.below(256))}
			if !crashset.Possible(d, newImage(t, d.Image(choice))) {
				t.Fatal("an image of the device is not Possible")
			}
			p := bytes.Clone(all[s.below(len(all))])
			p[s.below(len(p)/8)*8] = byte(s.below(3))
			i := newImage(t, p)
			if got, want := crashset.Possible(d, i), indexOf(all, p) >= 0; got != want {
				t.Fatalf("Possible = %t, want %t", got, want)
			}
			if _, got := crashset.Index(d, i); got != (indexOf(all, p) >= 0) {
				t.Fatalf("Index: %t", got)
			}
		}
	}
}

// P5.7: what an instruction does to the set of crash images.
func TestInstructions(t *testing.T) {
	s := sequence(77)
	d := newDevice(t, 2)
	for range 2000 {
		before := d.Copy()
		stored := s.step(d)
		if n, _ := crashset.Count(d); n > 500 {
			d.WriteBack(0, len(d.History(0)))
			d.WriteBack(1, len(d.History(1)))
			continue
		}
		if stored {
			checkSubset(t, before, d)
		} else {
			checkSubset(t, d, before)
		}
	}
}

// checkSubset checks that the crash images of a are also those of b.
func checkSubset(t *testing.T, a, b *device.Device) {
	t.Helper()
	for i := range crashset.All(a, math.MaxInt) {
		if !crashset.Possible(b, i) {
			t.Fatalf("not Possible: %s", i.Text())
		}
	}
}

// A device that is off has the crash images of the moment of the power failure.
func TestOff(t *testing.T) {
	d := newDevice(t, 2)
	d.Thread(0).Store(0, 1)
	d.Thread(0).Store(64, 1)
	want := images(d)
	d.Arm(0)
	d.Thread(0).Store(8, 1)
	if !d.Off() || !equalImages(collect(d, 9), want) {
		t.Error("the images of a device that is off")
	}
	if n, exact := crashset.Count(d); n != 4 || !exact {
		t.Errorf("Count = %d, %t", n, exact)
	}
}

// No call changes the device or the image, and results share no memory with either.
func TestNothingChanges(t *testing.T) {
	d := newDevice(t, 3)
	d.Thread(0).Store(0, 1)
	d.Thread(0).Store(8, 2)
	d.Thread(1).Store(128, 3)
	d.Thread(1).Flush(128)
	d.Arm(5)
	before := d.Copy()
	i, _ := crashset.At(d, 3)
	want := i.Bytes()
	crashset.Possible(d, i)
	crashset.Index(d, i)
	crashset.Count(d)
	crashset.Distinct(d, 10)
	collect(d, 10)
	c, _ := crashset.Choice(d, 3)
	clear(c)
	if c, _ = crashset.Choice(d, 3); !bytes.Equal(c, []byte{1, 1}) {
		t.Errorf("Choice = %v", c)
	}
	if !equalImages(images(d), images(before)) || !bytes.Equal(d.Current(), before.Current()) || d.Executed() != before.Executed() || d.Off() {
		t.Error("the device has changed")
	}
	d.Thread(1).Fence()
	if len(d.History(2)) != 0 {
		t.Error("the notes have changed")
	}
	d.Thread(0).Store(0, 9)
	if !bytes.Equal(i.Bytes(), want) {
		t.Error("the image has changed")
	}
}

func TestExamples(t *testing.T) {
	d := newDevice(t, 2)
	d.Thread(0).Store(0, 1)
	d.Thread(0).Store(64, 3)
	d.Thread(0).Store(72, 4)
	if n, exact := crashset.Count(d); n != 6 || !exact {
		t.Errorf("Count = %d", n)
	}
	want := []byte{0, 0, 0, 0, 3, 0, 0, 3, 4, 1, 0, 0, 1, 3, 0, 1, 3, 4}
	for n := range uint64(6) {
		i, e := crashset.At(d, n)
		p := i.Bytes()
		if e != api.OK || !bytes.Equal([]byte{p[0], p[64], p[72]}, want[3*n:3*n+3]) {
			t.Errorf("At(%d)", n)
		}
	}
	if c, e := crashset.Choice(d, 4); e != api.OK || !bytes.Equal(c, []byte{1, 1}) {
		t.Errorf("Choice(4) = %v", c)
	}
	d = newDevice(t, 1)
	d.Thread(0).Store(0, 7)
	d.Thread(0).Store(0, 7)
	if n, e := crashset.Distinct(d, 3); n != 2 || e != api.OK {
		t.Errorf("Distinct = %d", n)
	}
	i, _ := crashset.At(d, 2)
	if n, is := crashset.Index(d, i); n != 1 || !is {
		t.Errorf("Index = %d", n)
	}
}

// The largest device, with long histories.
func TestLarge(t *testing.T) {
	d := oneStoreEach(t, api.MaxLines)
	for k := range uint64(50000) {
		d.Thread(0).Store(64*4095+8*(1+k%7), k)
	}
	i, e := crashset.At(d, 50001)
	if e != api.OK || i.Bytes()[64*4095] != 1 || i.Bytes()[64*4094] != 0 {
		t.Errorf("At: %d", e)
	}
	if n, is := crashset.Index(d, i); n != 50001 || !is {
		t.Errorf("Index = %d, %t", n, is)
	}
	if i, e = crashset.At(d, math.MaxUint64); e != api.OK || !crashset.Possible(d, i) {
		t.Errorf("At of the greatest number: %d", e)
	}
	if c, e := crashset.Choice(oneStoreEach(t, api.MaxLines), 1); e != api.OK || len(c) != api.MaxLines || c[4095] != 1 || slices.Max(c[:4095]) != 0 {
		t.Errorf("Choice: %d", e)
	}
}
