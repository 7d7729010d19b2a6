package redo_test

import (
	"math"
	"slices"
	"testing"

	"bedrock/api"
	"bedrock/device"
	"bedrock/mem"
	"bedrock/redo"
)

// finds checks what Look and Recover find in a memory.
func finds(t *testing.T, m *recorder, r region, want redo.State, ws ...mem.Write) {
	t.Helper()
	m.program = nil
	r.is(t, m, want, ws...)
	if len(m.program) != 0 {
		t.Fatal("Look has changed the memory", m.program)
	}
	l := r.open(t, m)
	_, planned := l.Plan(nil)
	n, err := l.Recover()
	switch want {
	case redo.Idle:
		if n != 0 || err != api.OK || planned != api.OK || len(m.program) != 0 {
			t.Fatal(n, err, planned, m.program)
		}
	case redo.Damaged:
		if n != 0 || err != api.ErrSum || planned != api.ErrState || len(m.program) != 0 {
			t.Fatal(n, err, planned, m.program)
		}
		r.is(t, m, redo.Damaged)
	case redo.Committed:
		if n != len(ws) || err != api.OK || planned != api.ErrState {
			t.Fatal(n, err, planned)
		}
		sameProgram(t, "Recover", m.program, r.recovery(ws))
		r.is(t, m, redo.Idle)
	}
}

// P15.1 and P15.4: a committed log, with any number of entries.
func TestCommitted(t *testing.T) {
	s := sequence(1)
	for _, r := range []region{{0, 26}, {3, 26}, {5, 31}} {
		offs := r.words(40)
		for n := 1; n <= api.MaxWrites; n++ {
			m := newRecorder(40)
			ws := s.choose(n, offs)
			m.put(r, ws...)
			finds(t, m, r, redo.Committed, ws...)
			// In a damaged log offsets can be there twice; in the order of the entries the last one counts.
			if !has(m, lastOnes(ws)) {
				t.Fatal("the values")
			}
		}
	}
}

// What else is in the log has no meaning.
func TestOtherWords(t *testing.T) {
	r := region{2, 27}
	ws := []mem.Write{{Off: 0, Value: 1}, {Off: 1856, Value: 0}, {Off: 8, Value: math.MaxUint64}}
	for _, n := range []int{0, 1, 2, 3} {
		m := newRecorder(30)
		for word := range 27 * 8 {
			m.words[r.offset(word)] = 0x1234567 * uint64(word+1)
		}
		m.words[r.offset(0)] = 0
		if n == 0 {
			finds(t, m, r, redo.Idle)
			continue
		}
		m.put(r, ws[:n]...)
		finds(t, m, r, redo.Committed, ws[:n]...)
	}
}

// The numbers of entries that a log cannot have, with the checksums of that many entries.
func TestDamagedNumber(t *testing.T) {
	r := region{0, 26}
	var ws []mem.Write
	for i := range 120 {
		ws = append(ws, mem.Write{Off: 64*26 + 8*uint64(i%8), Value: uint64(i)})
	}
	for _, n := range []int{97, 98, 100, 120} {
		m := newRecorder(30)
		m.put(r, ws[:n]...)
		finds(t, m, r, redo.Damaged)
	}
	m := newRecorder(30)
	m.put(r, ws[:96]...)
	finds(t, m, r, redo.Committed, ws[:96]...)
	for _, n := range []uint64{97, 1000, 4096, 32768, 65535} {
		for _, sum := range []uint64{0, 1, 0x8a9136aa, math.MaxUint32} {
			m := newRecorder(30)
			m.words[0] = n + sum<<32
			finds(t, m, r, redo.Damaged)
		}
	}
	// No entries: the checksum of nothing is 0, with which the log is idle.
	for _, bits := range []uint64{1 << 16, 1 << 31, 1 << 32, 1 << 63, math.MaxUint64 - 65535} {
		m := newRecorder(30)
		m.words[0] = bits
		finds(t, m, r, redo.Damaged)
	}
}

// Each bit of a committed log that is inverted is noticed.
func TestDamagedBits(t *testing.T) {
	r := region{1, 26}
	ws := []mem.Write{{Off: 0, Value: 77}, {Off: 1792, Value: 0}, {Off: 1912, Value: 1 << 63}}
	content := newRecorder(30)
	content.put(r, ws...)
	finds(t, content.copy(), r, redo.Committed, ws...)
	for _, word := range []int{0, 8, 9, 10, 11, 12, 13} {
		for bit := range 64 {
			m := content.copy()
			m.words[r.offset(word)] ^= 1 << bit
			finds(t, m, r, redo.Damaged)
		}
	}
}

// Bits 16 to 31 of the commit word are 0.
func TestDamagedMiddle(t *testing.T) {
	r := region{0, 26}
	for n := 1; n <= 96; n += 19 {
		for bit := 16; bit < 32; bit++ {
			m := newRecorder(27)
			m.put(r, slices.Repeat([]mem.Write{{Off: 1664, Value: 3}}, n)...)
			m.words[0] |= 1 << bit
			finds(t, m, r, redo.Damaged)
		}
	}
}

// P15.1: the offset of an entry is that of a word of the memory outside of the log.
func TestDamagedOffsets(t *testing.T) {
	r := region{2, 27}
	good := []uint64{0, 8, 120, 29 * 64, 29*64 + 8, 30*64 - 8}
	bad := []uint64{1, 4, 7, 9, 127, 128, 136, 192, 1024, 29*64 - 64, 29*64 - 8, 29*64 - 1, 29*64 + 4, 30*64 - 7, 30*64 - 1, 30 * 64, 30*64 + 8, 1 << 32, 1 << 63, math.MaxUint64 - 7, math.MaxUint64}
	for _, off := range good {
		m := newRecorder(30)
		m.put(r, mem.Write{Off: off, Value: 5})
		finds(t, m, r, redo.Committed, mem.Write{Off: off, Value: 5})
	}
	for _, off := range bad {
		for at := range 3 {
			ws := []mem.Write{{Off: 0, Value: 1}, {Off: 29 * 64, Value: 2}, {Off: 8, Value: 3}}
			ws[at].Off = off
			m := newRecorder(30)
			m.put(r, ws...)
			finds(t, m, r, redo.Damaged)
		}
	}
	// Beyond the entries an offset has no meaning.
	m := newRecorder(30)
	m.put(r, mem.Write{Off: 0, Value: 1})
	m.words[r.offset(10)] = 3
	finds(t, m, r, redo.Committed, mem.Write{Off: 0, Value: 1})
}

// The last word of the largest memory, beyond all lines of int.
func TestFarOffsets(t *testing.T) {
	r := region{4, 26}
	m := newRecorder(0)
	m.size = math.MaxUint64
	ws := []mem.Write{{Off: math.MaxUint64 - 7, Value: 5}, {Off: 1 << 63, Value: 6}, {Off: 248, Value: 7}}
	m.put(r, ws...)
	finds(t, m, r, redo.Committed, ws...)
	l := r.open(t, m)
	if p, err := l.Plan(ws); err != api.OK {
		t.Error(err)
	} else {
		sameProgram(t, "Plan", p, r.committing(ws))
	}
}

// Look returns what the loads give, whatever the memory's error is.
func TestLookWithAnError(t *testing.T) {
	r := region{1, 26}
	ws := []mem.Write{{Off: 0, Value: 1}, {Off: 8, Value: 2}}
	d := r.newDevice(t, 30)
	if err := r.committing(ws)[:7].Run(d.Thread(0)); err != api.OK {
		t.Fatal(err)
	}
	d.Thread(1).Load(3)
	if d.Thread(1).Err() != api.ErrRange {
		t.Fatal(d.Thread(1).Err())
	}
	r.is(t, d.Thread(1), redo.Committed, ws...)
	d.Arm(0)
	d.Thread(2).Fence()
	r.is(t, d.Thread(1), redo.Idle)
	if state, found := redo.Look(d.Thread(1), 5, 26); state != 0 || len(found) != 0 {
		t.Error(state, found)
	}
	m := newRecorder(30)
	m.put(r, ws...)
	m.err = api.ErrRange
	r.is(t, m, redo.Committed, ws...)
	// The power fails in Look: the first words were loaded, the others are 0.
	m.err, m.count, m.failing = api.OK, 0, 3
	r.is(t, m, redo.Damaged)
}

// The results of Look are new memory.
func TestLookSharesNothing(t *testing.T) {
	r := region{0, 26}
	m := newRecorder(27)
	ws := []mem.Write{{Off: 1664, Value: 1}, {Off: 1672, Value: 2}}
	m.put(r, ws...)
	_, first := redo.Look(m, 0, 26)
	_, second := redo.Look(m, 0, 26)
	clear(first)
	if !slices.Equal(second, ws) {
		t.Error(second)
	}
	r.is(t, m, redo.Committed, ws...)
}

// A log that ends with the memory, and a memory whose last line is not a whole one.
func TestPartOfALine(t *testing.T) {
	m := newRecorder(0)
	m.size = 27*64 + 16
	r := region{1, 26}
	for off, want := range map[uint64]api.Errno{27 * 64: api.OK, 27*64 + 8: api.OK, 27*64 + 16: api.ErrArg, 27*64 - 8: api.ErrArg, 0: api.OK} {
		if _, err := r.open(t, m).Plan([]mem.Write{{Off: off, Value: 1}}); err != want {
			t.Error(off, err, want)
		}
	}
	if _, err := redo.Open(m, 2, 26); err != api.ErrArg {
		t.Error(err)
	}
	var d *device.Device
	if _, err := redo.Open(d.Thread(0), 0, 26); err != api.ErrArg {
		t.Error(err)
	}
}
