package order_test

import (
	"encoding/binary"
	"slices"
	"testing"

	"bedrock/api"
	"bedrock/device"
	"bedrock/order"
	"bedrock/script"
)

// model is the graph as the chapter describes it. It keeps which stores are mandatory one by one, and calls no device.
type model struct {
	lines     int
	stores    []device.Write
	mandatory []bool
	// flushed contains, for each thread, the stores that its flushes since its last fence noted, by lines.
	flushed [api.MaxThreads]map[uint64][]int
}

func newModel(lines int, l []script.Event) *model {
	m := &model{lines: lines}
	for id := range m.flushed {
		m.flushed[id] = map[uint64][]int{}
	}
	for _, e := range l {
		m.execute(e)
	}
	return m
}

func (m *model) execute(e script.Event) {
	size := uint64(m.lines) * 64
	isWord := e.Off%8 == 0 && e.Off < size
	switch e.Kind {
	case script.Store:
		if isWord {
			m.store(e.Off, e.Value)
		}
	case script.CAS:
		if isWord && m.current(e.Off) == e.Old {
			m.store(e.Off, e.Value)
		}
	case script.Flush:
		if e.Off < size {
			m.flushed[e.Thread][e.Off/64] = m.storesTo(e.Off / 64)
		}
	case script.Fence:
		for _, noted := range m.flushed[e.Thread] {
			m.need(noted)
		}
		clear(m.flushed[e.Thread])
	case script.WriteBack:
		rest := slices.DeleteFunc(m.storesTo(uint64(e.Line)), func(i int) bool { return m.mandatory[i] })
		if e.N <= len(rest) {
			m.need(rest[:e.N])
		}
	}
}

func (m *model) store(off, v uint64) {
	m.stores = append(m.stores, device.Write{Off: off, Value: v})
	m.mandatory = append(m.mandatory, false)
}

// current returns the value of the last store to a word.
func (m *model) current(off uint64) uint64 {
	v := uint64(0)
	for _, w := range m.stores {
		if w.Off == off {
			v = w.Value
		}
	}
	return v
}

// storesTo returns the stores to a line.
func (m *model) storesTo(line uint64) []int {
	var l []int
	for i, w := range m.stores {
		if w.Off/64 == line {
			l = append(l, i)
		}
	}
	return l
}

func (m *model) need(l []int) {
	for _, i := range l {
		m.mandatory[i] = true
	}
}

// listed returns the stores of which is reports true.
func (m *model) listed(is func(i int) bool) []int {
	var l []int
	for i := range m.stores {
		if is(i) {
			l = append(l, i)
		}
	}
	return l
}

// isCut reports whether a set of stores, given as the bits of a number, is a cut.
func (m *model) isCut(set int) bool {
	for j, w := range m.stores {
		in := set>>j&1 == 1
		if m.mandatory[j] && !in {
			return false
		}
		for i := range j {
			if in && m.stores[i].Off/64 == w.Off/64 && set>>i&1 == 0 {
				return false
			}
		}
	}
	return true
}

// cuts returns all cuts in their order: all sets of stores are tried. There must be few stores.
func (m *model) cuts() [][]int {
	var all [][]int
	for set := range 1 << len(m.stores) {
		if m.isCut(set) {
			all = append(all, m.listed(func(i int) bool { return set>>i&1 == 1 }))
		}
	}
	slices.SortFunc(all, func(a, b []int) int {
		return slices.Compare(m.numbers(a), m.numbers(b))
	})
	return all
}

// numbers returns, for each line, how many stores that are not mandatory are in a set.
func (m *model) numbers(set []int) []int {
	n := make([]int, m.lines)
	for _, i := range set {
		if !m.mandatory[i] {
			n[m.stores[i].Off/64]++
		}
	}
	return n
}

// image returns the content of the device with the last stores of a set.
func (m *model) image(set []int) []byte {
	p := make([]byte, 64*m.lines)
	for i, w := range m.stores {
		if slices.Contains(set, i) {
			binary.LittleEndian.PutUint64(p[w.Off:], w.Value)
		}
	}
	return p
}

// sequence yields a fixed irregular sequence of numbers.
type sequence uint64

func (s *sequence) next() uint64 {
	x := *s
	x ^= x << 13
	x ^= x >> 7
	x ^= x << 17
	*s = x
	return uint64(x) * 0x2545f4914f6cdd1d
}

func (s *sequence) below(n int) int {
	return int(s.next() >> 33 % uint64(n))
}

// event yields an event for a device of that many lines, mostly one that can have an effect.
func (s *sequence) event(lines int) script.Event {
	e := script.Event{Thread: s.below(3)}
	off := uint64(s.below(lines))*64 + uint64(s.below(3))*8
	switch s.below(16) {
	case 0:
		off += uint64(1 + s.below(7))
	case 1:
		off += uint64(lines) * 64
	}
	switch s.below(9) {
	case 0, 1, 2:
		e.Kind, e.Off, e.Value = script.Store, off, s.value()
	case 3:
		e.Kind, e.Off, e.Old, e.Value = script.CAS, off, uint64(s.below(2)), s.value()
	case 4, 5, 6:
		e.Kind, e.Off = script.Flush, off
	case 7:
		e.Kind = script.Fence
	default:
		return script.Event{Kind: script.WriteBack, Line: s.below(lines + 1), N: s.below(4)}
	}
	return e
}

// value yields a small number, or one of which each byte counts.
func (s *sequence) value() uint64 {
	if s.below(4) == 0 {
		return s.next()
	}
	return uint64(s.below(3))
}

// run is a script and the size of its device.
type run struct {
	lines  int
	events []script.Event
}

// runs returns many scripts with few stores.
func runs() []run {
	var all []run
	s := sequence(5)
	for range 400 {
		r := run{lines: 1 + s.below(4)}
		for len(newModel(r.lines, r.events).stores) < 9 && len(r.events) < 30 {
			r.events = append(r.events, s.event(r.lines))
		}
		all = append(all, r)
	}
	return all
}

// parse returns the events of a text.
func parse(t *testing.T, text string) []script.Event {
	t.Helper()
	l, n, e := script.Parse(text)
	if e != api.OK {
		t.Fatalf("line %d of the script: %d", n, e)
	}
	return l
}

func newGraph(t *testing.T, lines int, l []script.Event) *order.Graph {
	t.Helper()
	g, e := order.New(lines, l)
	if e != api.OK || g == nil {
		t.Fatalf("New: %v, %d", g, e)
	}
	return g
}

// storesEach returns the events of k stores to each of the first lines.
func storesEach(lines, k int) []script.Event {
	var l []script.Event
	for n := range lines {
		for v := range k {
			l = append(l, script.Event{Kind: script.Store, Off: uint64(64 * n), Value: uint64(v + 1)})
		}
	}
	return l
}

// collect returns the first limit cuts.
func collect(g *order.Graph, limit int) [][]int {
	var all [][]int
	for c := range g.Cuts(limit) {
		all = append(all, c)
	}
	return all
}

func equalCuts(a, b [][]int) bool {
	return slices.EqualFunc(a, b, slices.Equal)
}
