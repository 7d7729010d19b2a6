package mem_test

import (
	"cmp"
	"maps"
	"math"
	"slices"
	"testing"

	"bedrock/api"
	"bedrock/device"
	"bedrock/mem"
)

// model is an overlay of size bytes, described by whole states: the present one, and one for each mark.
type model struct {
	size    uint64
	words   map[uint64]uint64
	marks   []moment
	invalid []int
	missed  bool
}

type moment struct {
	number int
	words  map[uint64]uint64
}

func (m *model) store(off, v uint64) {
	if off%8 != 0 || off >= m.size {
		m.missed = true
		return
	}
	m.words[off] = v
}

// mark keeps the present state under a number. Other marks of the number have the same state.
func (m *model) mark(t *testing.T, number int) {
	t.Helper()
	for _, earlier := range m.marks {
		if earlier.number == number && !maps.Equal(earlier.words, m.words) {
			t.Fatalf("%d is the mark of %v and of %v", number, earlier.words, m.words)
		}
	}
	if slices.Contains(m.invalid, number) {
		t.Fatalf("%d is a mark again", number)
	}
	m.marks = append(m.marks, moment{number, maps.Clone(m.words)})
}

func (m *model) rollback(number int) api.Errno {
	at := slices.IndexFunc(m.marks, func(o moment) bool { return o.number == number })
	if at < 0 {
		return api.ErrArg
	}
	m.words = maps.Clone(m.marks[at].words)
	for _, later := range m.marks[at+1:] {
		if later.number != number {
			m.invalid = append(m.invalid, later.number)
		}
	}
	m.marks = m.marks[:at+1]
	return api.OK
}

func (m *model) writes() []mem.Write {
	var ws []mem.Write
	for off, v := range m.words {
		ws = append(ws, mem.Write{Off: off, Value: v})
	}
	slices.SortFunc(ws, func(a, b mem.Write) int { return cmp.Compare(a.Off, b.Off) })
	return ws
}

// check compares what an overlay over a recorder shows.
func (m *model) check(t *testing.T, o *mem.Overlay, r *recorder) {
	t.Helper()
	ws := o.Writes()
	sameWrites(t, "an overlay", ws, m.writes())
	spoil(ws)
	sameWrites(t, "an overlay whose result was changed", o.Writes(), m.writes())
	want := api.OK
	if m.missed {
		want = api.ErrRange
	}
	if o.Err() != want || o.Size() != m.size {
		t.Fatalf("the error is %v, the size %d, want %v and %d", o.Err(), o.Size(), want, m.size)
	}
	r.check(t)
	for off := range m.size + 20 {
		v, is := m.words[off]
		if b, has := o.Buffered(off); b != v || has != is {
			t.Fatalf("Buffered(%d) is %d, %v, want %d, %v", off, b, has, v, is)
		}
		r.check(t)
		if is {
			if o.Load(off) != v {
				t.Fatalf("the word at %d is %d, want %d", off, o.Load(off), v)
			}
			r.check(t)
			continue
		}
		if got := o.Load(off); got != valueAt(off) {
			t.Fatalf("the base's word at %d is %d, want %d", off, got, valueAt(off))
		}
		r.calls = nil
	}
}

// P10.4 and P10.5.
func TestOverlay(t *testing.T) {
	s := sequence(41)
	for run := range 150 {
		r := &recorder{size: 128}
		o := mem.Over(r)
		m := &model{size: 128, words: map[uint64]uint64{}}
		var numbers []int
		for range 60 {
			switch s.below(8) {
			case 0:
				numbers = append(numbers, o.Mark())
				m.mark(t, numbers[len(numbers)-1])
			case 1:
				number := s.below(12) - 2
				if len(numbers) > 0 && s.below(4) > 0 {
					number = numbers[s.below(len(numbers))]
				}
				if err, want := o.Rollback(number), m.rollback(number); err != want {
					t.Fatalf("Rollback(%d) is %v, want %v", number, err, want)
				}
			case 2:
				o.Flush(s.next() % 200)
				o.Fence()
			default:
				off, v := uint64(s.below(16))*8, s.next()%5
				if run%3 == 0 && s.below(30) == 0 {
					off = s.next() % 200
				}
				o.Store(off, v)
				m.store(off, v)
			}
			m.check(t, o, r)
		}
	}
}

// Only a multiple of 8 below the size is a word, whatever the size is.
func TestOverlayWords(t *testing.T) {
	for _, size := range []uint64{0, 1, 8, 12, 64, 1 << 40, math.MaxUint64} {
		if got := mem.Over(&recorder{size: size}).Size(); got != size {
			t.Errorf("the size is %d, want %d", got, size)
		}
		for _, off := range []uint64{0, 1, 4, 7, 8, 9, 16, 56, 63, 64, 72, 1<<40 - 8, 1 << 40, 1 << 63, math.MaxUint64 - 7, math.MaxUint64} {
			r := &recorder{size: size}
			o := mem.Over(r)
			o.Store(off, 5)
			is := off%8 == 0 && off < size
			want := api.OK
			if !is {
				want = api.ErrRange
			}
			if v, has := o.Buffered(off); has != is || is && v != 5 || !is && v != 0 || o.Err() != want || (len(o.Writes()) == 1) != is {
				t.Errorf("of %d bytes: Store(%d) gives %v, %v", size, off, has, o.Err())
			}
			r.check(t)
		}
	}
}

func TestOverlayErrors(t *testing.T) {
	r := &recorder{size: 64, err: api.ErrOff}
	o := mem.Over(r)
	m := o.Mark()
	if o.Err() != api.ErrOff {
		t.Error(o.Err())
	}
	// The error of the base memory comes first, and does not keep words from being buffered.
	o.Store(3, 1)
	o.Store(8, 2)
	if o.Err() != api.ErrOff || o.Load(8) != 2 {
		t.Error(o.Err(), o.Load(8))
	}
	r.err = api.ErrState
	if o.Err() != api.ErrState {
		t.Error(o.Err())
	}
	r.err = api.OK
	if o.Err() != api.ErrRange || o.Rollback(m) != api.OK || o.Err() != api.ErrRange || o.Rollback(m) != api.OK || o.Err() != api.ErrRange {
		t.Error(o.Err())
	}
	o.Store(8, 2)
	if o.Err() != api.ErrRange || o.Load(8) != 2 {
		t.Error(o.Err(), o.Load(8))
	}
	r.err = api.ErrOff
	if o.Err() != api.ErrOff {
		t.Error(o.Err())
	}
	r.check(t)
}

// Accesses that are no words to an overlay are those of the device.
func TestOverlayOverADevice(t *testing.T) {
	d, _ := device.New(2)
	d.Thread(0).Store(8, 4)
	o := mem.Over(d.Thread(0))
	if o.Size() != 128 || o.Load(8) != 4 || o.Err() != api.OK {
		t.Error(o.Size(), o.Load(8), o.Err())
	}
	executed := d.Executed()
	o.Store(8, 5)
	o.Store(120, 6)
	o.Flush(8)
	o.Fence()
	o.Flush(1000)
	if o.Load(8) != 5 || o.Load(120) != 6 || o.Err() != api.OK || d.Executed() != executed || d.Thread(1).Load(8) != 4 {
		t.Error(o.Load(8), o.Load(120), o.Err(), d.Executed())
	}
	// A store beside the overlay shows where nothing is buffered.
	d.Thread(1).Store(8, 7)
	d.Thread(1).Store(16, 8)
	if o.Load(8) != 5 || o.Load(16) != 8 {
		t.Error(o.Load(8), o.Load(16))
	}
	if o.Load(128) != 0 || o.Err() != api.ErrRange || d.Thread(0).Err() != api.ErrRange {
		t.Error(o.Err(), d.Thread(0).Err())
	}
	off := mem.Over(d.Thread(2))
	off.Store(0, 1)
	d.Arm(0)
	d.Thread(3).Fence()
	if off.Load(0) != 1 || off.Err() != api.OK || off.Load(8) != 0 || off.Err() != api.ErrOff || off.Load(0) != 1 {
		t.Error(off.Load(0), off.Err())
	}
}

// A program on an overlay has the effects of its stores there.
func TestOverlayOfPrograms(t *testing.T) {
	s := sequence(42)
	for range 500 {
		p := s.program()
		d, _ := device.New(4)
		direct, _ := device.New(4)
		inner := mem.Over(d.Thread(0))
		outer := mem.Over(inner)
		err := p.Run(outer)
		p.Run(direct.Thread(0))
		if len(inner.Writes()) != 0 || d.Executed() != 0 || inner.Err() != api.OK {
			t.Fatalf("%v: the base has %v", p, inner.Writes())
		}
		bad := slices.ContainsFunc(p.Writes(), func(w mem.Write) bool { return w.Off%8 != 0 })
		if (err == api.ErrRange) != bad || !bad && err != api.OK {
			t.Fatalf("%v: %v", p, err)
		}
		ws := outer.Writes()
		if err := mem.Stores(ws).Run(d.Thread(0)); err != api.OK || !slices.Equal(d.Persisted(), direct.Current()) {
			t.Fatalf("%v: the writes %v, %v", p, ws, err)
		}
	}
}

func TestMarks(t *testing.T) {
	r := &recorder{size: 64}
	o := mem.Over(r)
	for _, number := range []int{math.MinInt, -1, 0, 1, 2, math.MaxInt} {
		if err := o.Rollback(number); err != api.ErrArg {
			t.Errorf("Rollback(%d) without marks: %v", number, err)
		}
	}
	o.Store(0, 1)
	for _, number := range []int{-1, 0, 1, 2} {
		if err := o.Rollback(number); err != api.ErrArg || o.Load(0) != 1 {
			t.Errorf("Rollback(%d) without marks after a store: %v", number, err)
		}
	}
	first := o.Mark()
	o.Store(0, 2)
	o.Store(8, 3)
	second := o.Mark()
	o.Store(0, 4)
	third := o.Mark()
	if first == second || second == third || first == third {
		t.Fatal("one mark for several states:", first, second, third)
	}
	for range 2 {
		o.Store(16, 9)
		if err := o.Rollback(second); err != api.OK {
			t.Fatal(err)
		}
		sameWrites(t, "the second mark", o.Writes(), []mem.Write{{Off: 0, Value: 2}, {Off: 8, Value: 3}})
	}
	for range 3 {
		// The third mark stays invalid, also when there are as many stores as at its time, and later marks.
		if err := o.Rollback(third); err != api.ErrArg {
			t.Fatal("the third mark:", err)
		}
		o.Store(24, 5)
		if m := o.Mark(); m == third {
			t.Fatal("the third mark was made again")
		}
	}
	if err := o.Rollback(first); err != api.OK {
		t.Fatal(err)
	}
	sameWrites(t, "the first mark", o.Writes(), []mem.Write{{Off: 0, Value: 1}})
	for _, m := range []int{second, third} {
		if err := o.Rollback(m); err != api.ErrArg {
			t.Error("a later mark:", err)
		}
	}
	sameWrites(t, "the first mark", o.Writes(), []mem.Write{{Off: 0, Value: 1}})
	r.check(t)
}

// Overlays of one memory have marks and words of their own.
func TestOverlaysAreIndependent(t *testing.T) {
	r := &recorder{size: 64}
	a, b := mem.Over(r), mem.Over(r)
	a.Store(0, 1)
	m := a.Mark()
	a.Store(3, 1)
	if err := b.Rollback(m); err != api.ErrArg || b.Err() != api.OK || len(b.Writes()) != 0 || b.Load(0) != valueAt(0) {
		t.Error(err, b.Err(), b.Writes())
	}
}

// P10.6.
func TestOverlayOfNothing(t *testing.T) {
	if mem.Over(nil) == nil {
		t.Fatal("no overlay")
	}
	for k, o := range []*mem.Overlay{nil, mem.Over(nil)} {
		for range 2 {
			o.Store(0, 1)
			o.Store(3, 1)
			o.Flush(0)
			o.Fence()
			v, has := o.Buffered(0)
			if o.Load(0) != 0 || o.Size() != 0 || o.Err() != api.ErrArg || len(o.Writes()) != 0 || v != 0 || has {
				t.Errorf("overlay %d: %d, %d, %v, %v, %d, %v", k, o.Load(0), o.Size(), o.Err(), o.Writes(), v, has)
			}
			if o.Mark() != 0 {
				t.Errorf("overlay %d: the mark %d", k, o.Mark())
			}
			for _, mark := range []int{math.MinInt, -1, 0, 1, math.MaxInt} {
				if err := o.Rollback(mark); err != api.ErrArg {
					t.Errorf("overlay %d: Rollback(%d) is %v", k, mark, err)
				}
			}
		}
	}
	// A nil thread is a memory without words.
	o := mem.Over((*device.Thread)(nil))
	o.Store(0, 1)
	if o.Load(0) != 0 || o.Size() != 0 || o.Err() != api.ErrArg || len(o.Writes()) != 0 {
		t.Error(o.Load(0), o.Size(), o.Err(), o.Writes())
	}
}
