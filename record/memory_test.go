package record_test

import (
	"math"
	"reflect"
	"slices"
	"testing"

	"bedrock/api"
	"bedrock/device"
	"bedrock/mem"
	"bedrock/record"
)

// recorder is a memory whose words are their offsets plus 1. It keeps a list of the loads; from the load number failing on, if that is not 0, its error is ErrOff.
type recorder struct {
	size    uint64
	err     api.Errno
	failing int
	loads   []uint64
}

func (r *recorder) Load(off uint64) uint64 {
	r.loads = append(r.loads, off)
	if len(r.loads) == r.failing {
		r.err = api.ErrOff
	}
	return off + 1
}

func (r *recorder) Store(off, v uint64) { panic("a store") }
func (r *recorder) Flush(off uint64)    { panic("a flush") }
func (r *recorder) Fence()              { panic("a fence") }
func (r *recorder) Size() uint64        { return r.size }
func (r *recorder) Err() api.Errno      { return r.err }

// numbers is a codec of n numbers.
type numbers int

func (c numbers) Words() int { return int(c) }

func (c numbers) Encode(v []uint64, to []uint64) bool {
	if len(v) != len(to) {
		return false
	}
	copy(to, v)
	return true
}

func (c numbers) Decode(from []uint64) ([]uint64, bool) {
	return slices.Clone(from), true
}

// readsNothing checks that Read returns an error and no value, and how many words it has loaded.
func readsNothing[T any](t *testing.T, m *recorder, off uint64, c record.Codec[T], want api.Errno, loads int) {
	t.Helper()
	var none T
	m.loads = nil
	v, err := record.Read(m, off, c)
	if err != want || !reflect.DeepEqual(v, none) || len(m.loads) != loads {
		t.Fatalf("Read at %d of %d bytes: %v, %v after %d loads, want %v after %d", off, m.size, v, err, len(m.loads), want, loads)
	}
}

// P11.4: which words are loaded.
func TestRead(t *testing.T) {
	for _, size := range []uint64{64, 128, 4096, 1 << 40, math.MaxUint64 - 7} {
		for _, n := range []int{1, 2, 7, 8} {
			for _, off := range []uint64{0, 8, 40, size - 8*uint64(n)} {
				m := &recorder{size: size}
				want := make([]uint64, n)
				for i := range want {
					want[i] = off + 8*uint64(i) + 1
				}
				if off > size-8*uint64(n) {
					readsNothing(t, m, off, numbers(n), api.ErrRange, 0)
					continue
				}
				v, err := record.Read(m, off, numbers(n))
				if err != api.OK || !slices.Equal(v, want) {
					t.Fatalf("%d words at %d: %v, %v", n, off, v, err)
				}
				slices.Sort(m.loads)
				for i := range want {
					want[i]--
				}
				if !slices.Equal(slices.Compact(m.loads), want) {
					t.Fatalf("%d words at %d: the loads are %v", n, off, m.loads)
				}
			}
		}
	}
}

// P11.4: invalid arguments come first, and nothing is loaded.
func TestReadOfInvalidArguments(t *testing.T) {
	for _, failed := range []api.Errno{api.OK, api.ErrOff, api.ErrRange} {
		m := &recorder{size: 64, err: failed}
		for _, off := range []uint64{1, 2, 4, 7, 9, 63, 65, 1001, math.MaxUint64} {
			readsNothing(t, m, off, numbers(1), api.ErrArg, 0)
			readsNothing(t, m, off, record.Bool{}, api.ErrArg, 0)
		}
		for _, off := range []uint64{0, 8, 64, 800, math.MaxUint64 - 7} {
			for _, n := range []numbers{0, -1, 4097, math.MaxInt, math.MinInt} {
				readsNothing(t, m, off, n, api.ErrArg, 0)
			}
			readsNothing(t, m, off, record.Codec[string](nil), api.ErrArg, 0)
			readsNothing(t, m, off, record.Codec[uint64]((*pointed)(nil)), api.ErrArg, 0)
			readsNothing(t, m, off, record.Array[string]{N: 1}, api.ErrArg, 0)
			readsNothing(t, m, off, record.Array[uint64]{N: -1, Of: record.Uint{}}, api.ErrArg, 0)
			readsNothing(t, m, off, record.Option[string]{}, api.ErrArg, 0)
			readsNothing(t, m, off, pair{First: record.Uint{}}, api.ErrArg, 0)
		}
	}
	if v, err := record.Read(nil, 0, record.Uint{}); v != 0 || err != api.ErrArg {
		t.Error("no memory", v, err)
	}
	if v, err := record.Read(nil, 5, record.Codec[*bool](nil)); v != nil || err != api.ErrArg {
		t.Error("nothing", v, err)
	}
}

// P11.4: a record that is not entirely in the memory, also if the memory has an error.
func TestReadOutside(t *testing.T) {
	for _, failed := range []api.Errno{api.OK, api.ErrOff, api.ErrRange} {
		m := &recorder{size: 128, err: failed}
		for n := 1; n <= 4096; n += 1 + n/3 {
			for _, off := range []uint64{128 - 8*uint64(min(n, 17)) + 8, 120, 128, 136, 1 << 20, top, math.MaxUint64 - 15, math.MaxUint64 - 7} {
				if off+8*uint64(n) > 128 || off > 128 {
					readsNothing(t, m, off, numbers(n), api.ErrRange, 0)
				}
			}
		}
		readsNothing(t, &recorder{err: failed}, 0, numbers(1), api.ErrRange, 0)
		// Here the ends of the records would be 2^64 and more.
		for _, size := range []uint64{math.MaxUint64 - 7, math.MaxUint64} {
			readsNothing(t, &recorder{size: size, err: failed}, math.MaxUint64-15, numbers(2), api.ErrRange, 0)
			readsNothing(t, &recorder{size: size, err: failed}, math.MaxUint64-15, numbers(3), api.ErrRange, 0)
			readsNothing(t, &recorder{size: size, err: failed}, math.MaxUint64-7, numbers(4096), api.ErrRange, 0)
		}
		// The last word of such a memory is not whole.
		for size := uint64(65); size < 72; size++ {
			readsNothing(t, &recorder{size: size, err: failed}, 64, numbers(1), api.ErrRange, 0)
			readsNothing(t, &recorder{size: size, err: failed}, 56, numbers(2), api.ErrRange, 0)
			readsNothing(t, &recorder{size: size, err: failed}, 0, numbers(9), api.ErrRange, 0)
		}
	}
}

// P11.4: the memory's error, before or during the loads.
func TestReadOfAMemoryWithAnError(t *testing.T) {
	for _, failed := range []api.Errno{api.ErrOff, api.ErrRange, api.ErrArg, api.ErrSum} {
		readsNothing(t, &recorder{size: 64, err: failed}, 0, numbers(8), failed, 0)
		readsNothing(t, &recorder{size: 64, err: failed}, 8, record.Bool{}, failed, 0)
	}
	for failing := 1; failing <= 8; failing++ {
		m := &recorder{size: 64, failing: failing}
		v, err := record.Read(m, 0, numbers(8))
		if err != api.ErrOff || len(v) != 0 {
			t.Errorf("the power fails at the load %d: %v, %v", failing, v, err)
		}
	}
	// The error comes before that of the words, which are no truth value.
	if _, err := record.Read(&recorder{size: 64, failing: 1}, 8, record.Bool{}); err != api.ErrOff {
		t.Error(err)
	}
}

// P11.4: words that represent no value.
func TestReadOfOtherWords(t *testing.T) {
	readsNothing(t, &recorder{size: 64}, 8, record.Bool{}, api.ErrForm, 1)
	readsNothing(t, &recorder{size: 64}, 0, record.Name{}, api.ErrForm, 3)
	readsNothing(t, &recorder{size: 64}, 16, record.Array[uint64]{N: 3, Of: record.Uint{}}, api.ErrForm, 4)
	// This codec returns the words together with false.
	readsNothing(t, &recorder{size: 64}, 16, list{n: 2}, api.ErrForm, 2)
}

// P11.4.
func TestPlan(t *testing.T) {
	for _, n := range []int{1, 2, 9, 4096} {
		size := 8 * uint64(n)
		for _, off := range []uint64{0, 8, 56, 64, 4096, 1 << 40, top, math.MaxUint64 - size - 7} {
			v := make([]uint64, n)
			want := make([]mem.Write, n)
			for i := range v {
				v[i] = off ^ uint64(i*i)
				want[i] = mem.Write{Off: off + 8*uint64(i), Value: v[i]}
			}
			ws, err := record.Plan(off, numbers(n), v)
			if err != api.OK || !slices.Equal(ws, want) {
				t.Fatalf("%d words at %d: %v, %v", n, off, ws, err)
			}
		}
	}
}

// plansNothing checks that Plan returns ErrArg and no writes.
func plansNothing[T any](t *testing.T, off uint64, c record.Codec[T], v T) {
	t.Helper()
	if ws, err := record.Plan(off, c, v); err != api.ErrArg || len(ws) != 0 {
		t.Fatalf("Plan(%d, %T, %v): %v, %v", off, c, v, ws, err)
	}
}

// P11.4.
func TestPlanOfInvalidArguments(t *testing.T) {
	for _, off := range []uint64{0, 8, 64} {
		plansNothing(t, off, nil, "a")
		plansNothing(t, off, record.Codec[uint64]((*pointed)(nil)), 1)
		plansNothing(t, off, record.Array[bool]{N: 1}, nil)
		plansNothing(t, off, record.Array[bool]{N: -1, Of: record.Bool{}}, nil)
		plansNothing(t, off, record.Array[bool]{N: 4096, Of: record.Bool{}}, nil)
		plansNothing(t, off, record.Option[bool]{}, nil)
		plansNothing(t, off, pair{Second: list{n: 1}}, both{})
		for _, n := range []numbers{0, -1, 4097, math.MaxInt, math.MinInt} {
			plansNothing(t, off, n, nil)
		}
		plansNothing(t, off, record.Name{}, "12345678901234567")
		plansNothing(t, off, record.Array[bool]{N: 1, Of: record.Bool{}}, []bool{true, true})
		plansNothing(t, off, numbers(2), []uint64{1})
		for d := uint64(1); d < 8; d++ {
			plansNothing(t, off+d, record.Bool{}, true)
			plansNothing(t, off+d, numbers(2), []uint64{1, 2})
		}
	}
	for n := 1; n <= 4096; n += 1 + n/2 {
		// The end of a record at this offset would be 2^64.
		first := math.MaxUint64 - 8*uint64(n) + 1
		for off := first; off >= first; off += 8 * uint64(1+n/5) {
			plansNothing(t, off, numbers(n), make([]uint64, n))
		}
		if ws, err := record.Plan(first-8, numbers(n), make([]uint64, n)); err != api.OK || len(ws) != n {
			t.Error(n, err, len(ws))
		}
		plansNothing(t, math.MaxUint64, numbers(n), make([]uint64, n))
		plansNothing(t, math.MaxUint64-7, numbers(n), make([]uint64, n))
	}
}

// The rule 'Memory': arguments stay as they are, and results are new.
func TestPlanKeepsNothing(t *testing.T) {
	v := []uint64{5, 6}
	c := record.Array[uint64]{N: 3, Of: record.Uint{}}
	ws, _ := record.Plan(8, c, v)
	again, _ := record.Plan(8, c, v)
	clear(ws[:cap(ws)])
	if !slices.Equal(v, []uint64{5, 6}) || !slices.Equal(again, []mem.Write{{Off: 8, Value: 2}, {Off: 16, Value: 5}, {Off: 24, Value: 6}, {Off: 32, Value: 0}}) {
		t.Error(v, again)
	}
}

// P11.4: what is planned and stored is read again, in every memory.
func TestReadOfAPlan(t *testing.T) {
	s := sequence(17)
	d, _ := device.New(64)
	buffer := mem.Over(d.Thread(1))
	meter := mem.Count(d.Thread(2))
	for range 500 {
		v := make([]account, s.below(6))
		for i := range v {
			v[i] = s.account()
		}
		c := record.Array[account]{N: 5, Of: accounts{}}
		off := 8 * uint64(s.below(512-51+1))
		ws, err := record.Plan(off, c, v)
		if err != api.OK || len(ws) != 51 || ws[0].Off != off || ws[50].Off != off+400 {
			t.Fatal(err, ws)
		}
		for _, m := range []mem.Memory{d.Thread(0), buffer, meter} {
			if err := mem.Stores(ws).Run(m); err != api.OK {
				t.Fatal(err)
			}
			got, err := record.Read(m, off, c)
			if err != api.OK || !reflect.DeepEqual(got, v) {
				t.Fatalf("at %d: %v, %v, want %v", off, got, err, v)
			}
		}
	}
	if meter.Loads() != 500*51 {
		t.Error(meter.Loads(), "loads")
	}
}

// P11.4: a device's borders, its damage and its power failure.
func TestReadOfADevice(t *testing.T) {
	d, _ := device.New(2)
	thread := d.Thread(3)
	ws, _ := record.Plan(104, record.Name{}, "bedrock")
	if err := mem.Stores(ws).Run(thread); err != api.OK {
		t.Fatal(err)
	}
	if v, err := record.Read(thread, 104, record.Name{}); v != "bedrock" || err != api.OK {
		t.Error(v, err)
	}
	if v, err := record.Read(thread, 112, record.Name{}); v != "" || err != api.ErrRange || thread.Err() != api.OK {
		t.Error(v, err, thread.Err())
	}
	thread.Store(120, 1)
	if v, err := record.Read(thread, 104, record.Name{}); v != "" || err != api.ErrForm {
		t.Error(v, err)
	}
	if v, err := record.Read((*device.Thread)(nil), 0, record.Name{}); v != "" || err != api.ErrRange {
		t.Error("no thread", v, err)
	}
	d.Arm(0)
	thread.Fence()
	if v, err := record.Read(thread, 104, record.Name{}); v != "" || err != api.ErrOff {
		t.Error(v, err)
	}
	if v, err := record.Read(thread, 112, record.Name{}); v != "" || err != api.ErrRange {
		t.Error(v, err)
	}
	if v, err := record.Read(thread, 105, record.Name{}); v != "" || err != api.ErrArg {
		t.Error(v, err)
	}
}
