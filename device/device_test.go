package device_test

import (
	"bytes"
	"math"
	"slices"
	"testing"

	"bedrock/api"
	"bedrock/device"
	"bedrock/mem"
)

var _ mem.Memory = (*device.Thread)(nil)

func newDevice(t *testing.T, lines int) *device.Device {
	t.Helper()
	d, e := device.New(lines)
	if e != api.OK {
		t.Fatalf("New(%d): %d", lines, e)
	}
	return d
}

func fromBytes(t *testing.T, p []byte) *device.Device {
	t.Helper()
	d, e := device.From(p)
	if e != api.OK {
		t.Fatalf("From %d bytes: %d", len(p), e)
	}
	return d
}

// exampleDevice returns the device of the chapter's first example.
func exampleDevice(t *testing.T) *device.Device {
	d := newDevice(t, 2)
	a := d.Thread(0)
	a.Store(0, 1)
	a.Store(8, 2)
	a.Store(64, 3)
	return d
}

// allImages returns every crash image of a device with up to two dirty lines.
func allImages(d *device.Device) [][]byte {
	h := []int{0, 0}
	for i, n := range d.Dirty() {
		h[i] = len(d.History(n))
	}
	var images [][]byte
	for i := range h[0] + 1 {
		for j := range h[1] + 1 {
			images = append(images, d.Image([]byte{byte(i), byte(j)}))
		}
	}
	return images
}

func TestNew(t *testing.T) {
	for _, lines := range []int{math.MinInt, -4096, -1, 0, 4097, 1 << 32, 1<<32 + 1, 1 << 58, math.MaxInt} {
		if d, e := device.New(lines); d != nil || e != api.ErrArg {
			t.Errorf("New(%d) = %p, %d", lines, d, e)
		}
	}
	for _, lines := range []int{1, 2, 7, 4095, 4096} {
		d := newDevice(t, lines)
		if d.Lines() != lines || d.Size() != 64*uint64(lines) {
			t.Errorf("New(%d): %d lines, %d bytes", lines, d.Lines(), d.Size())
		}
		newModel(make([]byte, 64*lines)).compare(t, d)
	}
}

func TestFrom(t *testing.T) {
	s := sequence(1)
	for _, lines := range []int{1, 3, 4096} {
		p := s.bytes(64 * lines)
		d := fromBytes(t, p)
		if d.Lines() != lines || d.Size() != uint64(len(p)) {
			t.Errorf("From %d bytes: %d lines, %d bytes", len(p), d.Lines(), d.Size())
		}
		newModel(p).compare(t, d)
		for off := uint64(0); off < d.Size(); off += 8 {
			if got, want := d.Thread(0).Load(off), getWord(p, off); got != want {
				t.Fatalf("Load(%d) = %x, want %x", off, got, want)
			}
		}
	}
	cases := []struct {
		size int
		want api.Errno
	}{
		{0, api.ErrArg},
		{1, api.ErrForm},
		{8, api.ErrForm},
		{63, api.ErrForm},
		{65, api.ErrForm},
		{64*4096 + 8, api.ErrForm},
		{64*4096 + 64, api.ErrArg},
		{64 * 5000, api.ErrArg},
	}
	for _, c := range cases {
		if d, e := device.From(make([]byte, c.size)); d != nil || e != c.want {
			t.Errorf("From %d bytes = %p, %d; want %d", c.size, d, e, c.want)
		}
	}
	if d, e := device.From(nil); d != nil || e != api.ErrArg {
		t.Errorf("From(nil) = %p, %d", d, e)
	}
}

func TestFromKeepsNothingOfItsArgument(t *testing.T) {
	s := sequence(2)
	p := s.bytes(128)
	want := bytes.Clone(p)
	d := fromBytes(t, p)
	d.Thread(0).Store(0, 1)
	if !bytes.Equal(p, want) {
		t.Error("a store has changed the argument")
	}
	clear(p)
	if !bytes.Equal(d.Persisted(), want) {
		t.Error("the device shares memory with the argument")
	}
}

func TestThreads(t *testing.T) {
	d := newDevice(t, 2)
	for id := range 8 {
		a := d.Thread(id)
		if a == nil || a.ID() != id || a.Size() != 128 || a.Err() != api.OK {
			t.Fatalf("thread %d", id)
		}
		if d.Thread(id) != a {
			t.Errorf("thread %d is another object at the second call", id)
		}
	}
	for _, id := range []int{math.MinInt, -1, 8, 9, 1 << 32, math.MaxInt} {
		if a := d.Thread(id); a != nil {
			t.Errorf("Thread(%d) is not nil", id)
		}
	}
}

func TestNilDevice(t *testing.T) {
	var d *device.Device
	d.Arm(0)
	d.Arm(-1)
	if d.Lines() != 0 || d.Size() != 0 || d.Off() || d.Executed() != 0 || d.WriteBack(0, 0) {
		t.Error("numbers")
	}
	if len(d.Dirty())+len(d.History(0))+len(d.Current())+len(d.Persisted())+len(d.Image(nil))+len(d.Image([]byte{1})) != 0 {
		t.Error("contents")
	}
	if d.Thread(0) != nil || d.Thread(-1) != nil || d.Crash(nil) != nil || d.Crash([]byte{1}) != nil || d.Copy() != nil {
		t.Error("objects")
	}
}

func TestNilThread(t *testing.T) {
	var a *device.Thread
	a.Store(0, 1)
	a.Flush(0)
	a.Fence()
	if a.Load(0) != 0 || a.CAS(0, 0, 0) || a.Size() != 0 || a.ID() != 0 {
		t.Error("results")
	}
	if a.Err() != api.ErrArg {
		t.Errorf("Err = %d", a.Err())
	}
}

func TestRandomSequences(t *testing.T) {
	for seed := range 400 {
		s := sequence(seed + 1)
		p := make([]byte, 64*(1+s.below(4)))
		if seed%2 == 1 {
			p = s.bytes(len(p))
		}
		d, m := fromBytes(t, p), newModel(p)
		for range 120 {
			s.step(t, d, m)
			choice := s.bytes(s.below(4))
			if got, want := d.Image(choice), m.image(choice); !bytes.Equal(got, want) {
				t.Fatalf("Image(%v)", choice)
			}
		}
	}
}

func TestStoreOfTheCurrentValue(t *testing.T) {
	d := newDevice(t, 1)
	a := d.Thread(0)
	a.Store(8, 0)
	a.Store(8, 0)
	if !a.CAS(8, 0, 0) {
		t.Error("CAS(8, 0, 0)")
	}
	zero := device.Write{Off: 8}
	if got := d.History(0); !slices.Equal(got, []device.Write{zero, zero, zero}) {
		t.Errorf("History = %v", got)
	}
}

func TestCAS(t *testing.T) {
	d := newDevice(t, 1)
	a, b := d.Thread(0), d.Thread(5)
	a.Store(16, 7)
	if b.CAS(16, 6, 8) || b.CAS(16, 0, 8) || b.Load(16) != 7 || len(d.History(0)) != 1 {
		t.Error("CAS with another value")
	}
	if !b.CAS(16, 7, math.MaxUint64) || a.Load(16) != math.MaxUint64 {
		t.Error("CAS with the current value")
	}
	if b.CAS(24, 1, 2) || a.Load(24) != 0 {
		t.Error("CAS of a word that is 0")
	}
	if want := []device.Write{{Off: 16, Value: 7}, {Off: 16, Value: math.MaxUint64}}; !slices.Equal(d.History(0), want) {
		t.Errorf("History = %v", d.History(0))
	}
	if d.Executed() != 5 {
		t.Errorf("Executed = %d", d.Executed())
	}
}

func TestEachWordIsStoredAlone(t *testing.T) {
	s := sequence(3)
	p := s.bytes(192)
	for off := uint64(0); off < 192; off += 8 {
		d := fromBytes(t, p)
		d.Thread(1).Store(off, 0x0123456789abcdef)
		want := bytes.Clone(p)
		copy(want[off:], []byte{0xef, 0xcd, 0xab, 0x89, 0x67, 0x45, 0x23, 0x01})
		if !bytes.Equal(d.Current(), want) || !bytes.Equal(d.Image([]byte{1}), want) || !bytes.Equal(d.Persisted(), p) {
			t.Errorf("a store at %d", off)
		}
		if got := d.Dirty(); !slices.Equal(got, []int{int(off / 64)}) {
			t.Errorf("a store at %d: Dirty = %v", off, got)
		}
	}
}

func TestExampleOfFlushAndFence(t *testing.T) {
	d := exampleDevice(t)
	a := d.Thread(0)
	a.Flush(0)
	a.Store(0, 4)
	a.Fence()
	if p := d.Persisted(); getWord(p, 0) != 1 || getWord(p, 8) != 2 || getWord(p, 64) != 0 {
		t.Error("Persisted")
	}
	if !slices.Equal(d.History(0), []device.Write{{Off: 0, Value: 4}}) || !slices.Equal(d.History(1), []device.Write{{Off: 64, Value: 3}}) {
		t.Errorf("History = %v, %v", d.History(0), d.History(1))
	}
}

func TestFlushTakesAnyByteOfTheLine(t *testing.T) {
	for off := range uint64(128) {
		d := newDevice(t, 2)
		a := d.Thread(0)
		a.Store(8, 1)
		a.Store(64, 2)
		a.Flush(off)
		a.Fence()
		p := d.Persisted()
		if first := off < 64; a.Err() != api.OK || (getWord(p, 8) == 1) != first || (getWord(p, 64) == 2) == first {
			t.Errorf("Flush(%d)", off)
		}
	}
}

func TestFencePersistsTheThreadsOwnNotes(t *testing.T) {
	d := newDevice(t, 3)
	a, b := d.Thread(0), d.Thread(7)
	a.Store(0, 1)
	b.Store(64, 2)
	a.Store(128, 3)
	b.Flush(0)
	a.Flush(64)
	a.Fence()
	if p := d.Persisted(); getWord(p, 0) != 0 || getWord(p, 64) != 2 || getWord(p, 128) != 0 {
		t.Error("the fence of thread 0")
	}
	b.Fence()
	if p := d.Persisted(); getWord(p, 0) != 1 || getWord(p, 128) != 0 {
		t.Error("the fence of thread 7")
	}
}

func TestFenceForgetsTheNotes(t *testing.T) {
	d := newDevice(t, 1)
	a := d.Thread(0)
	a.Store(0, 1)
	a.Flush(0)
	a.Fence()
	a.Store(0, 2)
	a.Fence()
	if getWord(d.Persisted(), 0) != 1 {
		t.Error("a second fence has persisted a later store")
	}
}

func TestLaterFlushReplacesTheNote(t *testing.T) {
	d := newDevice(t, 1)
	a := d.Thread(0)
	a.Store(0, 1)
	a.Flush(0)
	a.Store(8, 2)
	a.Flush(0)
	a.Store(16, 3)
	a.Fence()
	if p := d.Persisted(); getWord(p, 0) != 1 || getWord(p, 8) != 2 || getWord(p, 16) != 0 {
		t.Errorf("Persisted = %v", p)
	}
}

// A note is a position among all stores of the line, so what others persist in between does not shift it.
func TestNotesAreStablePositions(t *testing.T) {
	d := newDevice(t, 1)
	a, b := d.Thread(0), d.Thread(1)
	a.Store(0, 1)
	a.Store(8, 2)
	a.Flush(0)
	d.WriteBack(0, 1)
	a.Store(16, 3)
	a.Fence()
	if want := []device.Write{{Off: 16, Value: 3}}; !slices.Equal(d.History(0), want) {
		t.Errorf("after a write-back: %v", d.History(0))
	}
	a.Flush(0)
	b.Store(24, 4)
	b.Flush(0)
	b.Fence()
	b.Store(32, 5)
	a.Fence()
	if want := []device.Write{{Off: 32, Value: 5}}; !slices.Equal(d.History(0), want) {
		t.Errorf("after a fence of another thread: %v", d.History(0))
	}
}

func TestWriteBack(t *testing.T) {
	d := exampleDevice(t)
	bad := []struct{ line, k int }{{0, 3}, {0, -1}, {1, 2}, {2, 0}, {-1, 0}, {0, math.MaxInt}, {0, math.MinInt}, {math.MaxInt, 1}, {math.MinInt, 1}, {1 << 32, 0}}
	for _, c := range bad {
		if d.WriteBack(c.line, c.k) {
			t.Errorf("WriteBack(%d, %d)", c.line, c.k)
		}
	}
	if !bytes.Equal(d.Persisted(), make([]byte, 128)) {
		t.Error("a refused write-back has persisted something")
	}
	if !d.WriteBack(0, 0) || len(d.History(0)) != 2 {
		t.Error("WriteBack of no stores")
	}
	if !d.WriteBack(0, 1) || !slices.Equal(d.History(0), []device.Write{{Off: 8, Value: 2}}) || getWord(d.Persisted(), 0) != 1 {
		t.Error("WriteBack of the first store")
	}
	if !d.WriteBack(0, 1) || !slices.Equal(d.Dirty(), []int{1}) || !d.WriteBack(0, 0) {
		t.Error("WriteBack of the rest")
	}
	if d.Executed() != 3 {
		t.Errorf("Executed = %d", d.Executed())
	}
}

func TestHistoryOfNoLine(t *testing.T) {
	d := exampleDevice(t)
	for _, n := range []int{math.MinInt, -1, 2, 1 << 32, math.MaxInt} {
		if h := d.History(n); len(h) != 0 {
			t.Errorf("History(%d) = %v", n, h)
		}
	}
}

// countedInstructions are those at which the power can fail.
func countedInstructions() map[string]func(a *device.Thread) {
	return map[string]func(a *device.Thread){
		"Store":      func(a *device.Thread) { a.Store(8, 9) },
		"CAS":        func(a *device.Thread) { a.CAS(8, 0, 9) },
		"failed CAS": func(a *device.Thread) { a.CAS(8, 1, 9) },
		"Flush":      func(a *device.Thread) { a.Flush(0) },
		"Fence":      func(a *device.Thread) { a.Fence() },
	}
}

func TestArmCountsInstructions(t *testing.T) {
	for name, instruction := range countedInstructions() {
		d := newDevice(t, 1)
		a := d.Thread(2)
		d.Arm(3)
		for range 3 {
			a.Load(0)
			d.WriteBack(0, 0)
			instruction(a)
		}
		a.Load(0)
		d.WriteBack(0, 0)
		if d.Off() || d.Executed() != 3 || a.Err() != api.OK {
			t.Fatalf("%s: Off %t, Executed %d", name, d.Off(), d.Executed())
		}
		instruction(a)
		if !d.Off() || d.Executed() != 3 || a.Err() != api.ErrOff || d.Thread(3).Err() != api.OK {
			t.Errorf("%s at the power failure: Off %t, Executed %d", name, d.Off(), d.Executed())
		}
	}
}

func TestTheInstructionAtThePowerFailureHasNoEffect(t *testing.T) {
	for name, instruction := range countedInstructions() {
		d := newDevice(t, 1)
		a := d.Thread(0)
		a.Store(0, 1)
		a.Flush(0)
		want := d.Image([]byte{1})
		d.Arm(0)
		instruction(a)
		if got := d.Current(); !bytes.Equal(got, want) || getWord(d.Persisted(), 0) != 0 || len(d.History(0)) != 1 {
			t.Errorf("%s has had an effect", name)
		}
	}
	d := newDevice(t, 1)
	d.Arm(0)
	if d.Thread(0).CAS(0, 0, 1) {
		t.Error("CAS at the power failure returns true")
	}
}

func TestExampleOfArm(t *testing.T) {
	d := exampleDevice(t)
	a := d.Thread(0)
	d.Arm(1)
	a.Store(0, 5)
	a.Store(8, 6)
	if !d.Off() || a.Err() != api.ErrOff || getWord(d.Current(), 8) != 2 || getWord(d.Current(), 0) != 5 {
		t.Error("Arm(1)")
	}
}

func TestArmAgainAndDisarm(t *testing.T) {
	for _, n := range []int{-1, -2, math.MinInt} {
		d := newDevice(t, 1)
		d.Arm(0)
		d.Arm(n)
		for range 10 {
			d.Thread(0).Fence()
		}
		if d.Off() || d.Executed() != 10 {
			t.Errorf("Arm(%d) does not disarm", n)
		}
	}
	d := newDevice(t, 1)
	d.Arm(0)
	d.Arm(2)
	d.Thread(0).Fence()
	d.Arm(1)
	d.Thread(0).Fence()
	if d.Off() {
		t.Error("an earlier Arm counts")
	}
	d.Thread(0).Fence()
	if !d.Off() || d.Executed() != 2 {
		t.Error("the latest Arm does not count")
	}
	d = newDevice(t, 1)
	d.Arm(math.MaxInt)
	d.Thread(0).Fence()
	if d.Off() || d.Executed() != 1 {
		t.Error("Arm(MaxInt)")
	}
}

func TestOffDevice(t *testing.T) {
	d := exampleDevice(t)
	d.Arm(0)
	d.Thread(0).Fence()
	want := d.Image([]byte{1, 1})
	for _, n := range []int{-1, 0, 5} {
		d.Arm(n)
	}
	for id := range 8 {
		a := d.Thread(id)
		switch id {
		case 1:
			a.Store(0, 9)
		case 2:
			a.Flush(0)
		case 3:
			a.Fence()
		case 4:
			a.Store(1, 9)
		case 5:
			a.Flush(128)
		case 6:
			a.Load(math.MaxUint64)
		}
		if a.Load(0) != 0 || a.CAS(0, 1, 9) || a.Err() != api.ErrOff {
			t.Errorf("thread %d on an off device: Err %d", id, a.Err())
		}
	}
	if !d.Off() || d.Executed() != 3 || d.WriteBack(0, 1) || d.WriteBack(0, 0) {
		t.Error("an off device")
	}
	if !bytes.Equal(d.Image([]byte{1, 1}), want) || getWord(d.Current(), 0) != 1 || len(d.Dirty()) != 2 {
		t.Error("an off device has changed")
	}
}

func TestInvalidOffsets(t *testing.T) {
	bad := []uint64{1, 4, 7, 127, 128, 136, 1 << 32, 1 << 63, math.MaxUint64, math.MaxUint64 - 7, math.MaxUint64 - 63}
	for _, off := range bad {
		d := exampleDevice(t)
		d.Arm(0)
		d.Thread(1).Store(off, 9)
		if d.Thread(2).CAS(off, 0, 0) || d.Thread(3).Load(off) != 0 {
			t.Errorf("results at %d", off)
		}
		if off >= 128 {
			d.Thread(4).Flush(off)
		}
		for id := range 8 {
			want := api.OK
			if id >= 1 && id <= 3 || id == 4 && off >= 128 {
				want = api.ErrRange
			}
			if got := d.Thread(id).Err(); got != want {
				t.Errorf("offset %d, thread %d: Err = %d, want %d", off, id, got, want)
			}
		}
		if d.Off() || d.Executed() != 3 || len(d.History(0)) != 2 || len(d.History(1)) != 1 {
			t.Errorf("offset %d: an invalid instruction was executed", off)
		}
		d.Thread(5).Fence()
		if !d.Off() || d.Thread(5).Err() != api.ErrOff {
			t.Errorf("offset %d: the device is no longer armed", off)
		}
	}
}

func TestTheFirstErrorRemains(t *testing.T) {
	d := newDevice(t, 1)
	a, b := d.Thread(0), d.Thread(1)
	a.Load(3)
	a.Store(8, 5)
	if a.Err() != api.ErrRange || a.Load(8) != 5 || d.Executed() != 1 {
		t.Error("a thread with ErrRange does not execute valid instructions")
	}
	a.Store(64, 5)
	a.Flush(0)
	a.Fence()
	if getWord(d.Persisted(), 8) != 5 {
		t.Error("Flush and Fence of a thread with ErrRange")
	}
	d.Arm(0)
	b.Store(0, 1)
	a.Store(0, 1)
	b.Load(3)
	if a.Err() != api.ErrRange || b.Err() != api.ErrOff {
		t.Errorf("Err = %d, %d", a.Err(), b.Err())
	}
	if a.Load(8) != 0 {
		t.Error("Load of an off device")
	}
	c := newDevice(t, 1)
	c.Thread(0).Load(3)
	c.Arm(0)
	c.Thread(0).Fence()
	if !c.Off() || c.Thread(0).Err() != api.ErrRange {
		t.Error("the power failure replaces ErrRange")
	}
}

func TestImageExamples(t *testing.T) {
	d := exampleDevice(t)
	cases := []struct {
		choice     []byte
		x, y, last uint64
	}{
		{nil, 0, 0, 0},
		{[]byte{}, 0, 0, 0},
		{[]byte{1}, 1, 0, 3},
		{[]byte{2, 0}, 1, 2, 0},
		{[]byte{3, 1}, 0, 0, 3},
		{[]byte{255, 255}, 0, 0, 3},
		{[]byte{0, 1, 2}, 0, 0, 3},
		{[]byte{254, 254}, 1, 2, 0},
	}
	for _, c := range cases {
		p := d.Image(c.choice)
		if getWord(p, 0) != c.x || getWord(p, 8) != c.y || getWord(p, 64) != c.last {
			t.Errorf("Image(%v) = %v", c.choice, p)
		}
	}
	if distinct := slices.CompactFunc(allImages(d), bytes.Equal); len(distinct) != 6 {
		t.Errorf("%d images", len(distinct))
	}
}

func TestChoiceSkipsCleanLinesAndRepeats(t *testing.T) {
	d := newDevice(t, 9)
	a := d.Thread(0)
	for n := range uint64(4) {
		for k := range uint64(3) {
			a.Store((2*n+1)*64, k+1)
		}
	}
	p := d.Image([]byte{1, 2, 3})
	for n, want := range []uint64{0, 1, 0, 2, 0, 3, 0, 1, 0} {
		if got := getWord(p, uint64(n)*64); got != want {
			t.Errorf("line %d: %d, want %d", n, got, want)
		}
	}
}

func TestImageOfALongHistory(t *testing.T) {
	d := newDevice(t, 1)
	for k := range uint64(700) {
		d.Thread(0).Store(0, k+1)
	}
	for _, choice := range []byte{0, 1, 128, 255} {
		if got := getWord(d.Image([]byte{choice}), 0); got != uint64(choice) {
			t.Errorf("Image([%d]): %d", choice, got)
		}
	}
}

func TestCrash(t *testing.T) {
	d := exampleDevice(t)
	d.Thread(0).Flush(0)
	d.Thread(0).Load(1)
	d.Arm(0)
	d.Thread(3).Fence()
	for _, choice := range [][]byte{nil, {1}, {2, 0}, {2, 1}} {
		before := d.Image([]byte{2, 1})
		c := d.Crash(choice)
		newModel(d.Image(choice)).compare(t, c)
		c.Thread(0).Fence()
		c.Thread(0).Store(0, 77)
		if c.Off() || c.Thread(0).Load(0) != 77 {
			t.Errorf("Crash(%v) is off or armed", choice)
		}
		if !d.Off() || d.Executed() != 4 || !bytes.Equal(d.Image([]byte{2, 1}), before) {
			t.Errorf("Crash(%v) has changed the old device", choice)
		}
	}
}

func TestCopyIsIndependent(t *testing.T) {
	for seed := range 200 {
		s := sequence(seed + 1000)
		p := s.bytes(64 * (1 + s.below(3)))
		d, m := fromBytes(t, p), newModel(p)
		for range s.below(40) {
			s.step(t, d, m)
		}
		c, mc := d.Copy(), m.copy()
		mc.compare(t, c)
		for range 40 {
			s.step(t, d, m)
			s.step(t, c, mc)
			m.compare(t, d)
		}
	}
}

func TestCopyKeepsNotesArmingAndErrors(t *testing.T) {
	d := exampleDevice(t)
	d.Thread(0).Flush(0)
	d.Thread(1).Load(1)
	d.Arm(1)
	c := d.Copy()
	if c.Thread(0).ID() != 0 || c.Thread(7).ID() != 7 || c.Thread(0) == d.Thread(0) {
		t.Error("threads of the copy")
	}
	if c.Thread(0).Err() != api.OK || c.Thread(1).Err() != api.ErrRange || c.Executed() != 4 {
		t.Error("errors, Executed")
	}
	c.Thread(0).Fence()
	if getWord(c.Persisted(), 8) != 2 || getWord(d.Persisted(), 8) != 0 {
		t.Error("notes")
	}
	c.Thread(0).Fence()
	if !c.Off() || d.Off() || !c.Copy().Off() {
		t.Error("arming")
	}
	d.Thread(0).Fence()
	if d.Off() || getWord(d.Persisted(), 8) != 2 {
		t.Error("the original after its copy")
	}
}

func TestImagesConsistOfPrefixes(t *testing.T) {
	d := newDevice(t, 2)
	a := d.Thread(0)
	a.Store(0, 1)
	a.Flush(0)
	a.Fence()
	for i, off := range []uint64{0, 8, 64, 0, 120, 8} {
		a.Store(off, uint64(i+10))
	}
	for _, p := range allImages(d) {
		for n := range 2 {
			k := 0
			for k <= len(d.History(n)) && !bytes.Equal(p[64*n:64*n+64], d.Crash([]byte{byte(k)}).Current()[64*n:64*n+64]) {
				k++
			}
			if k > len(d.History(n)) {
				t.Errorf("line %d of %v is no prefix", n, p)
			}
		}
		if getWord(p, 8) == 11 && getWord(p, 0) == 1 || getWord(p, 8) == 15 && getWord(p, 0) != 13 {
			t.Errorf("%v has a later store without an earlier one", p)
		}
		if w := getWord(p, 0); w != 1 && w != 10 && w != 13 {
			t.Errorf("the word 0 is %d", w)
		}
	}
	if len(allImages(d)) != 5*3 {
		t.Errorf("%d images", len(allImages(d)))
	}
}

// storesFrom returns the values stored to the word at off, from the last store of the given value on.
func storesFrom(stores []device.Write, off, value uint64) []uint64 {
	var values []uint64
	for _, w := range stores {
		if w.Off == off && w.Value == value {
			values = nil
		}
		if w.Off == off {
			values = append(values, w.Value)
		}
	}
	return values
}

func TestFencedStoresStay(t *testing.T) {
	const fenced = 1000
	for seed := range 60 {
		s := sequence(seed + 5000)
		d, m := newDevice(t, 2), newModel(make([]byte, 128))
		for range 20 {
			s.step(t, d, m)
			d.Arm(-1)
			m.arm(-1)
		}
		off := uint64(s.below(16)) * 8
		a := d.Thread(6)
		a.Store(off, fenced)
		a.Flush(off)
		a.Fence()
		m.store(6, off, fenced)
		m.flush(6, off)
		m.fence(6)
		for range 12 {
			s.step(t, d, m)
			values := storesFrom(m.stores[off/64], off, fenced)
			for _, p := range allImages(d) {
				if w := getWord(p, off); !slices.Contains(values, w) {
					t.Fatalf("seed %d: the word at %d is %d, not one of %v", seed, off, w, values)
				}
			}
		}
	}
}

func TestImagesWithoutHistories(t *testing.T) {
	d := exampleDevice(t)
	d.WriteBack(0, 2)
	d.WriteBack(1, 1)
	for _, choice := range [][]byte{nil, {0}, {1, 2}, {255}} {
		if !bytes.Equal(d.Image(choice), d.Current()) || !bytes.Equal(d.Persisted(), d.Current()) {
			t.Errorf("Image(%v)", choice)
		}
	}
	if len(d.Dirty()) != 0 || getWord(d.Current(), 8) != 2 || getWord(d.Current(), 64) != 3 {
		t.Error("Dirty, Current")
	}
}

func TestResultsShareNoMemory(t *testing.T) {
	d := exampleDevice(t)
	want := d.Copy()
	choice := []byte{1, 1}
	for range 2 {
		for _, p := range [][]byte{d.Current(), d.Persisted(), d.Image(choice)} {
			for i := range p {
				p[i] = 0xee
			}
		}
		history, dirty := d.History(0), d.Dirty()
		clear(history)
		clear(dirty)
		_ = append(history[:1], device.Write{Off: 8, Value: 99})
		_ = append(d.History(0), device.Write{Off: 8, Value: 99})
	}
	if !slices.Equal(choice, []byte{1, 1}) {
		t.Error("Image has changed its argument")
	}
	d.Thread(0).Store(0, 4)
	want.Thread(0).Store(0, 4)
	if !slices.Equal(d.History(0), want.History(0)) || !slices.Equal(d.Dirty(), want.Dirty()) {
		t.Error("History, Dirty")
	}
	if !bytes.Equal(d.Current(), want.Current()) || !bytes.Equal(d.Persisted(), want.Persisted()) || !bytes.Equal(d.Image(choice), want.Image(choice)) {
		t.Error("Current, Persisted, Image")
	}
	d.WriteBack(0, 1)
	history := d.History(0)
	d.WriteBack(0, 1)
	d.Thread(0).Store(16, 5)
	if !slices.Equal(history, []device.Write{{Off: 8, Value: 2}, {Off: 0, Value: 4}}) {
		t.Errorf("an earlier result of History is now %v", history)
	}
}
