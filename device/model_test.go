package device_test

import (
	"bytes"
	"maps"
	"math"
	"slices"
	"testing"

	"bedrock/api"
	"bedrock/device"
)

// model is a device as the chapter describes it: it keeps every store ever executed, and how many of a line's stores are persistent.
type model struct {
	initial   []byte
	stores    [][]device.Write
	persisted []int
	notes     [api.MaxThreads]map[int]int
	errors    [api.MaxThreads]api.Errno
	off       bool
	left      int // -1: not armed
	executed  uint64
}

func newModel(initial []byte) *model {
	m := &model{initial: initial, left: -1}
	m.stores = make([][]device.Write, len(initial)/64)
	m.persisted = make([]int, len(initial)/64)
	for id := range m.notes {
		m.notes[id] = map[int]int{}
	}
	return m
}

func (m *model) copy() *model {
	c := *m
	c.stores = slices.Clone(m.stores)
	for n := range c.stores {
		c.stores[n] = slices.Clone(m.stores[n])
	}
	c.persisted = slices.Clone(m.persisted)
	for id := range c.notes {
		c.notes[id] = maps.Clone(m.notes[id])
	}
	return &c
}

// line returns a line with the first k stores ever executed on it.
func (m *model) line(n, k int) []byte {
	p := bytes.Clone(m.initial[64*n : 64*n+64])
	for _, w := range m.stores[n][:k] {
		putWord(p, w.Off%64, w.Value)
	}
	return p
}

func (m *model) history(n int) []device.Write {
	return m.stores[n][m.persisted[n]:]
}

func (m *model) current() []byte {
	var p []byte
	for n := range m.stores {
		p = append(p, m.line(n, len(m.stores[n]))...)
	}
	return p
}

func (m *model) dirty() []int {
	var dirty []int
	for n := range m.stores {
		if len(m.history(n)) > 0 {
			dirty = append(dirty, n)
		}
	}
	return dirty
}

func (m *model) image(choice []byte) []byte {
	k := slices.Clone(m.persisted)
	for i, n := range m.dirty() {
		if len(choice) > 0 {
			k[n] += int(choice[i%len(choice)]) % (len(m.history(n)) + 1)
		}
	}
	var p []byte
	for n := range m.stores {
		p = append(p, m.line(n, k[n])...)
	}
	return p
}

// starts reports whether the thread executes an instruction.
func (m *model) starts(id int, valid, counted bool) bool {
	e := api.OK
	switch {
	case m.off:
		e = api.ErrOff
	case !valid:
		e = api.ErrRange
	case counted && m.left == 0:
		m.off = true
		e = api.ErrOff
	}
	if e != api.OK {
		if m.errors[id] == api.OK {
			m.errors[id] = e
		}
		return false
	}
	if counted {
		m.executed++
		if m.left > 0 {
			m.left--
		}
	}
	return true
}

func (m *model) isWord(off uint64) bool {
	return off%8 == 0 && off < uint64(len(m.initial))
}

func (m *model) load(id int, off uint64) uint64 {
	if !m.starts(id, m.isWord(off), false) {
		return 0
	}
	return getWord(m.current(), off)
}

func (m *model) store(id int, off, v uint64) {
	if m.starts(id, m.isWord(off), true) {
		m.stores[off/64] = append(m.stores[off/64], device.Write{Off: off, Value: v})
	}
}

func (m *model) cas(id int, off, old, new uint64) bool {
	if !m.starts(id, m.isWord(off), true) || getWord(m.current(), off) != old {
		return false
	}
	m.stores[off/64] = append(m.stores[off/64], device.Write{Off: off, Value: new})
	return true
}

func (m *model) flush(id int, off uint64) {
	if m.starts(id, off < uint64(len(m.initial)), true) {
		m.notes[id][int(off/64)] = len(m.stores[off/64])
	}
}

func (m *model) fence(id int) {
	if !m.starts(id, true, true) {
		return
	}
	for n, position := range m.notes[id] {
		m.persisted[n] = max(m.persisted[n], position)
	}
	m.notes[id] = map[int]int{}
}

func (m *model) arm(n int) {
	if !m.off {
		m.left = max(n, -1)
	}
}

func (m *model) writeBack(n, k int) bool {
	if m.off || n < 0 || n >= len(m.stores) || k < 0 || k > len(m.history(n)) {
		return false
	}
	m.persisted[n] += k
	return true
}

// compare checks everything that a device shows, apart from its notes and arming, which show in later steps.
func (m *model) compare(t *testing.T, d *device.Device) {
	t.Helper()
	if d.Off() != m.off || d.Executed() != m.executed {
		t.Fatalf("Off %t, Executed %d; want %t, %d", d.Off(), d.Executed(), m.off, m.executed)
	}
	for id, want := range m.errors {
		if got := d.Thread(id).Err(); got != want {
			t.Fatalf("thread %d: Err = %d, want %d", id, got, want)
		}
	}
	if !slices.Equal(d.Dirty(), m.dirty()) {
		t.Fatalf("Dirty = %v, want %v", d.Dirty(), m.dirty())
	}
	for n := range m.stores {
		if got, want := d.History(n), m.history(n); !slices.Equal(got, want) {
			t.Fatalf("History(%d) = %v, want %v", n, got, want)
		}
	}
	if !bytes.Equal(d.Current(), m.current()) || !bytes.Equal(d.Persisted(), m.image(nil)) {
		t.Fatal("Current, Persisted")
	}
}

// sequence yields a fixed irregular sequence of numbers.
type sequence uint64

func (s *sequence) next() uint64 {
	x := *s
	x ^= x << 13
	x ^= x >> 7
	x ^= x << 17
	*s = x
	return uint64(x) * 0x2545f4914f6cdd1d
}

func (s *sequence) below(n int) int {
	return int(s.next() >> 33 % uint64(n))
}

func (s *sequence) bytes(n int) []byte {
	p := make([]byte, n)
	for i := range p {
		p[i] = byte(s.next() >> 40)
	}
	return p
}

// offset yields offsets of words, and sometimes others, within the size and outside of it.
func (s *sequence) offset(size uint64) uint64 {
	word := uint64(s.below(int(size)/8)) * 8
	if s.below(12) > 0 {
		return word
	}
	others := []uint64{word + 1, word + 4, word + 7, size, size + 8, size - 1, math.MaxUint64, math.MaxUint64 - 7, 1 << 63, 1 << 32, 1<<32 + 8}
	return others[s.below(len(others))]
}

// step executes one call on a device and on its model, and compares what the two return.
func (s *sequence) step(t *testing.T, d *device.Device, m *model) {
	t.Helper()
	id := s.below(3)
	a := d.Thread(id)
	off := s.offset(d.Size())
	v := uint64(s.below(4))
	switch s.below(15) {
	case 0, 1, 2, 3:
		a.Store(off, v)
		m.store(id, off, v)
	case 4, 5:
		old := uint64(s.below(4))
		if got, want := a.CAS(off, old, v), m.cas(id, off, old, v); got != want {
			t.Fatalf("CAS(%d, %d, %d) = %t", off, old, v, got)
		}
	case 6, 7, 8:
		a.Flush(off)
		m.flush(id, off)
	case 9, 10:
		a.Fence()
		m.fence(id)
	case 11:
		n, k := s.below(d.Lines()+2)-1, s.below(5)-1
		if got, want := d.WriteBack(n, k), m.writeBack(n, k); got != want {
			t.Fatalf("WriteBack(%d, %d) = %t", n, k, got)
		}
	case 12:
		n := s.below(60) - 20
		d.Arm(n)
		m.arm(n)
	default:
		if got, want := a.Load(off), m.load(id, off); got != want {
			t.Fatalf("Load(%d) = %d, want %d", off, got, want)
		}
	}
	m.compare(t, d)
}

func getWord(p []byte, off uint64) uint64 {
	w := uint64(0)
	for i := range uint64(8) {
		w += uint64(p[off+i]) << (8 * i)
	}
	return w
}

func putWord(p []byte, off, w uint64) {
	for i := range uint64(8) {
		p[off+i] = byte(w >> (8 * i))
	}
}
