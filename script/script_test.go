package script_test

import (
	"bytes"
	"math"
	"slices"
	"testing"

	"bedrock/api"
	"bedrock/device"
	"bedrock/script"
)

// sequence yields a fixed irregular sequence of numbers.
type sequence uint64

func (s *sequence) next() uint64 {
	x := *s
	x ^= x << 13
	x ^= x >> 7
	x ^= x << 17
	*s = x
	return uint64(x) * 0x2545f4914f6cdd1d
}

func (s *sequence) below(n int) int {
	return int(s.next() >> 33 % uint64(n))
}

func (s *sequence) word() uint64 {
	return s.next() >> s.below(64)
}

// event yields a valid event with any values.
func (s *sequence) event() script.Event {
	id := s.below(8)
	switch s.below(7) {
	case 0:
		return script.Event{Kind: script.Store, Thread: id, Off: s.word(), Value: s.word()}
	case 1:
		return script.Event{Kind: script.CAS, Thread: id, Off: s.word(), Old: s.word(), Value: s.word()}
	case 2:
		return script.Event{Kind: script.Flush, Thread: id, Off: s.word()}
	case 3:
		return script.Event{Kind: script.Fence, Thread: id}
	case 4:
		return script.Event{Kind: script.WriteBack, Line: s.below(4096), N: int(s.word() >> 33)}
	case 5:
		return script.Event{Kind: script.Arm, N: max(-1, int(s.word()>>33)-5)}
	}
	choice := make([]byte, s.below(4)*s.below(4))
	for k := range choice {
		choice[k] = byte(s.below(256))
	}
	return script.Event{Kind: script.Crash, Choice: choice}
}

// happening yields an event that fits a device of three lines; sometimes its offset is not valid.
func (s *sequence) happening() script.Event {
	id := s.below(3)
	off := uint64(s.below(3)*64 + s.below(3)*8)
	if s.below(20) == 0 {
		off += []uint64{1, 4, 184, 192, 1 << 40}[s.below(5)]
	}
	v := uint64(s.below(3))
	switch s.below(16) {
	case 0, 1, 2, 3, 4:
		return script.Event{Kind: script.Store, Thread: id, Off: off, Value: v}
	case 5, 6:
		return script.Event{Kind: script.CAS, Thread: id, Off: off, Old: uint64(s.below(3)), Value: v}
	case 7, 8, 9:
		return script.Event{Kind: script.Flush, Thread: id, Off: off}
	case 10, 11:
		return script.Event{Kind: script.Fence, Thread: id}
	case 12, 13:
		return script.Event{Kind: script.WriteBack, Line: s.below(4), N: s.below(4)}
	case 14:
		return script.Event{Kind: script.Arm, N: s.below(30) - 1}
	}
	return script.Event{Kind: script.Crash, Choice: []byte{byte(s.below(256)), byte(s.below(256))}[:s.below(3)]}
}

// direct does what an event says by a call of the device, and returns what Step shall return.
func direct(d *device.Device, e script.Event) (*device.Device, bool, api.Errno) {
	a := d.Thread(e.Thread)
	result := false
	word := e.Off%8 == 0 && e.Off < d.Size()
	valid := true
	switch e.Kind {
	case script.Store:
		a.Store(e.Off, e.Value)
		valid = word
	case script.CAS:
		result = a.CAS(e.Off, e.Old, e.Value)
		valid = word
	case script.Flush:
		a.Flush(e.Off)
		valid = e.Off < d.Size()
	case script.Fence:
		a.Fence()
	case script.WriteBack:
		return d, d.WriteBack(e.Line, e.N), api.OK
	case script.Arm:
		d.Arm(e.N)
		return d, false, api.OK
	case script.Crash:
		return d.Crash(e.Choice), false, api.OK
	}
	switch {
	case d.Off():
		return d, false, api.ErrOff
	case !valid:
		return d, false, api.ErrRange
	}
	return d, result, api.OK
}

// same reports whether two devices are in the same state, as far as methods show it.
func same(a, b *device.Device) bool {
	if a.Lines() != b.Lines() || a.Off() != b.Off() || a.Executed() != b.Executed() || !bytes.Equal(a.Persisted(), b.Persisted()) || !bytes.Equal(a.Current(), b.Current()) {
		return false
	}
	for n := range a.Lines() {
		if !slices.Equal(a.History(n), b.History(n)) {
			return false
		}
	}
	for id := range api.MaxThreads {
		if a.Thread(id).Err() != b.Thread(id).Err() {
			return false
		}
	}
	return true
}

// sameHidden is same for what only later instructions show: notes, and whether a device is armed.
func sameHidden(a, b *device.Device) bool {
	a, b = a.Copy(), b.Copy()
	for id := range api.MaxThreads {
		a.Thread(id).Fence()
		b.Thread(id).Fence()
		if !same(a, b) {
			return false
		}
	}
	return true
}

func newDevice(t *testing.T, lines int) *device.Device {
	t.Helper()
	d, e := device.New(lines)
	if e != api.OK {
		t.Fatal("device.New")
	}
	return d
}

// P6.3, P6.5: a step is the call of the device; two devices stay in the same state.
func TestStep(t *testing.T) {
	s := sequence(21)
	counts := map[api.Errno]int{}
	trues := 0
	for range 150 {
		d := newDevice(t, 3)
		model := d.Copy()
		for range 60 {
			event := s.happening()
			before := d
			after, is, e := script.Step(d, event)
			wantDevice, wantIs, want := direct(model, event)
			if is != wantIs || e != want || !same(after, wantDevice) || !sameHidden(after, wantDevice) {
				t.Fatalf("%s: %t, %d, want %t, %d", event.Text(), is, e, wantIs, want)
			}
			if (after == before) != (event.Kind != script.Crash) {
				t.Fatalf("%s: which device", event.Text())
			}
			d, model = after, wantDevice
			counts[e]++
			if is {
				trues++
			}
		}
	}
	if counts[api.OK] < 1000 || counts[api.ErrOff] < 100 || counts[api.ErrRange] < 100 || trues < 100 {
		t.Errorf("too few different results: %v, %d", counts, trues)
	}
}

func TestStepArguments(t *testing.T) {
	for _, p := range pairs() {
		if d, is, e := script.Step(nil, p.event); d != nil || is || e != api.ErrArg {
			t.Errorf("Step(nil, %s): %d", p.line, e)
		}
	}
	d := newDevice(t, 3)
	d.Thread(1).Store(8, 1)
	d.Thread(1).Flush(8)
	d.Arm(3)
	before := d.Copy()
	for _, event := range invalid() {
		if after, is, e := script.Step(d, event); after != d || is || e != api.ErrArg {
			t.Errorf("Step of %v: %t, %d", event, is, e)
		}
		if after, e := script.Run(d, []script.Event{event}); after != d || e != api.ErrArg {
			t.Errorf("Run of %v: %d", event, e)
		}
	}
	if !same(d, before) || !sameHidden(d, before) {
		t.Error("an invalid event has an effect")
	}
	d.Arm(0)
	d.Thread(0).Fence()
	for _, event := range invalid() {
		if after, is, e := script.Step(d, event); after != d || is || e != api.ErrArg {
			t.Errorf("Step of %v on a device that is off: %t, %d", event, is, e)
		}
	}
}

// P6.3: which error an instruction has, at the borders of the device.
func TestStepOffsets(t *testing.T) {
	cases := []struct {
		kind script.Kind
		off  uint64
		want api.Errno
	}{
		{script.Store, 0, api.OK}, {script.Store, 120, api.OK}, {script.Store, 128, api.ErrRange}, {script.Store, 121, api.ErrRange}, {script.Store, 4, api.ErrRange}, {script.Store, math.MaxUint64 - 7, api.ErrRange},
		{script.CAS, 0, api.OK}, {script.CAS, 120, api.OK}, {script.CAS, 128, api.ErrRange}, {script.CAS, 127, api.ErrRange}, {script.CAS, 1, api.ErrRange}, {script.CAS, 1 << 63, api.ErrRange},
		{script.Flush, 0, api.OK}, {script.Flush, 127, api.OK}, {script.Flush, 121, api.OK}, {script.Flush, 128, api.ErrRange}, {script.Flush, math.MaxUint64, api.ErrRange},
	}
	for _, c := range cases {
		d := newDevice(t, 2)
		event := script.Event{Kind: c.kind, Thread: 5, Off: c.off}
		_, is, e := script.Step(d, event)
		if e != c.want || is != (c.kind == script.CAS && c.want == api.OK) || d.Thread(5).Err() != c.want {
			t.Errorf("%s: %t, %d, %d", event.Text(), is, e, d.Thread(5).Err())
		}
		// An earlier error of the thread is no error of an event.
		d = newDevice(t, 2)
		d.Thread(5).Load(1)
		if _, _, e = script.Step(d, event); e != c.want {
			t.Errorf("%s after an error: %d", event.Text(), e)
		}
		// On a device that is off there is no other error.
		d.Arm(0)
		d.Thread(5).Fence()
		if _, is, e = script.Step(d, event); e != api.ErrOff || is {
			t.Errorf("%s on a device that is off: %t, %d", event.Text(), is, e)
		}
		// An instruction that is not executed does not let the power fail.
		d = newDevice(t, 2)
		d.Arm(0)
		want := api.ErrOff
		if c.want == api.ErrRange {
			want = api.ErrRange
		}
		if _, is, e = script.Step(d, event); e != want || is || d.Off() != (want == api.ErrOff) {
			t.Errorf("%s on an armed device: %t, %d", event.Text(), is, e)
		}
	}
}

// The events of the cache and of the power have no errors on a device that is off, either.
func TestStepOff(t *testing.T) {
	d := newDevice(t, 1)
	d.Thread(0).Store(0, 7)
	d.Arm(0)
	if after, is, e := script.Step(d, script.Event{Kind: script.Fence}); after != d || is || e != api.ErrOff {
		t.Errorf("fence: %d", e)
	}
	if after, is, e := script.Step(d, script.Event{Kind: script.WriteBack, N: 1}); after != d || is || e != api.OK {
		t.Errorf("writeback: %t, %d", is, e)
	}
	if after, is, e := script.Step(d, script.Event{Kind: script.Arm, N: -1}); after != d || is || e != api.OK || !d.Off() {
		t.Errorf("arm: %t, %d", is, e)
	}
	after, is, e := script.Step(d, script.Event{Kind: script.Crash, Choice: []byte{1}})
	if after == d || is || e != api.OK || after.Off() || after.Persisted()[0] != 7 || len(after.Dirty()) != 0 || !d.Off() {
		t.Errorf("crash: %t, %d", is, e)
	}
}

// runModel is Run by its words.
func runModel(d *device.Device, l []script.Event) (*device.Device, api.Errno, int) {
	for k, event := range l {
		if !event.Valid() {
			return d, api.ErrArg, k
		}
		after, _, e := direct(d, event)
		if e == api.ErrRange {
			return d, e, k
		}
		d = after
	}
	return d, api.OK, len(l)
}

// P6.3 to P6.5: a run, a run in two parts, and runs over copies.
func TestRun(t *testing.T) {
	s := sequence(31)
	stops := map[api.Errno]int{}
	for range 300 {
		var l []script.Event
		for range s.below(40) {
			l = append(l, s.happening())
		}
		if s.below(10) == 0 {
			l = append(l, script.Event{Kind: script.Arm, N: -2}, script.Event{Kind: script.Store, Value: 9})
		}
		d := newDevice(t, 3)
		model, parts := d.Copy(), d.Copy()
		want, wantErr, stop := runModel(model, l)
		got, e := script.Run(d, l)
		if e != wantErr || !same(got, want) || !sameHidden(got, want) || !same(d, model) {
			t.Fatalf("Run of\n%s%d, want %d", script.Text(l), e, wantErr)
		}
		stops[e]++
		cut := s.below(stop + 1)
		first, e := script.Run(parts, l[:cut])
		if e != api.OK {
			t.Fatalf("the first part stops: %d", e)
		}
		if first, e = script.Run(first, l[cut:]); e != wantErr || !same(first, want) || !sameHidden(first, want) {
			t.Fatalf("Run in two parts: %d, want %d", e, wantErr)
		}
	}
	if stops[api.OK] < 50 || stops[api.ErrRange] < 50 || stops[api.ErrArg] < 5 {
		t.Errorf("too few different results: %v", stops)
	}
}

func TestRunStops(t *testing.T) {
	for _, d := range []*device.Device{nil, newDevice(t, 1)} {
		if after, e := script.Run(d, nil); after != d || e != api.OK {
			t.Errorf("Run of no events: %d", e)
		}
		if after, e := script.Run(d, []script.Event{}); after != d || e != api.OK {
			t.Errorf("Run of no events: %d", e)
		}
	}
	if after, e := script.Run(nil, []script.Event{{Kind: script.Fence}}); after != nil || e != api.ErrArg {
		t.Errorf("Run(nil): %d", e)
	}
	// After a stop nothing is executed; the device is that of the last crash.
	d := newDevice(t, 1)
	after, e := script.Run(d, []script.Event{
		{Kind: script.Store, Value: 1}, {Kind: script.Crash, Choice: []byte{1}}, {Kind: script.Store, Off: 8, Value: 2}, {Kind: script.Store, Off: 64}, {Kind: script.Store, Off: 16, Value: 3},
	})
	if e != api.ErrRange || after == d || after.Executed() != 1 || after.Thread(0).Load(0) != 1 || after.Thread(0).Load(8) != 2 || after.Thread(0).Load(16) != 0 {
		t.Errorf("Run: %d", e)
	}
	// A failed CAS and a failed write-back are no errors.
	if _, e := script.Run(newDevice(t, 1), []script.Event{{Kind: script.CAS, Old: 5, Value: 6}, {Kind: script.WriteBack, Line: 4095, N: 1}, {Kind: script.Fence}}); e != api.OK {
		t.Errorf("Run: %d", e)
	}
	// The power fails in the middle, and the rest is run up to the crash.
	after, e = script.Run(newDevice(t, 1), []script.Event{
		{Kind: script.Store, Value: 1}, {Kind: script.Arm}, {Kind: script.Store, Off: 8, Value: 2}, {Kind: script.Store, Off: 64}, {Kind: script.Crash, Choice: []byte{9}}, {Kind: script.Store, Off: 16, Value: 3},
	})
	if e != api.OK || !bytes.Equal(after.Persisted()[:16], []byte{1, 0, 0, 0, 0, 0, 0, 0, 0, 0, 0, 0, 0, 0, 0, 0}) || after.Thread(0).Load(16) != 3 {
		t.Errorf("Run after a power failure: %d, %v", e, after.Current()[:24])
	}
}

// P6.6: an event's choice is neither changed nor kept.
func TestCrashKeepsNothing(t *testing.T) {
	d := newDevice(t, 1)
	d.Thread(0).Store(0, 7)
	choice := []byte{1, 2}
	after, _, _ := script.Step(d, script.Event{Kind: script.Crash, Choice: choice})
	if !bytes.Equal(choice, []byte{1, 2}) {
		t.Error("the choice has changed")
	}
	clear(choice)
	d.Thread(0).Store(0, 8)
	if after.Thread(0).Load(0) != 7 || d.Thread(0).Load(0) != 8 {
		t.Error("the new device depends on the old one")
	}
}

func TestExampleOfRun(t *testing.T) {
	l, n, e := script.Parse("store 0 0 7\nflush 0 0\nfence 0\ncrash -\n")
	if len(l) != 4 || n != 0 || e != api.OK {
		t.Fatalf("Parse: %v, %d, %d", l, n, e)
	}
	d := newDevice(t, 1)
	after, e := script.Run(d, l)
	if e != api.OK || after == d || after.Persisted()[0] != 7 || after.Executed() != 0 {
		t.Errorf("Run: %d", e)
	}
}
