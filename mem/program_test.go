package mem_test

import (
	"math"
	"slices"
	"testing"

	"bedrock/api"
	"bedrock/device"
	"bedrock/mem"
)

func TestOps(t *testing.T) {
	if mem.StoreOp != 1 || mem.FlushOp != 2 || mem.FenceOp != 3 {
		t.Error(mem.StoreOp, mem.FlushOp, mem.FenceOp)
	}
}

// flushed returns the flushes of the lines that contain one of the offsets, and a fence, by a comparison with each line from the first one on.
func flushed(offs []uint64) mem.Program {
	var p mem.Program
	if len(offs) == 0 {
		return p
	}
	first := slices.Min(offs) / 64 * 64
	for line := first; ; line += 64 {
		if slices.ContainsFunc(offs, func(off uint64) bool { return off >= line && off-line < 64 }) {
			p = append(p, mem.Instr{Op: mem.FlushOp, Off: line})
		}
		if slices.Max(offs)-line < 64 {
			return append(p, mem.Instr{Op: mem.FenceOp})
		}
	}
}

// persistent returns what Persist returns, word by word.
func persistent(off uint64, words int) mem.Program {
	var offs []uint64
	off = off / 8 * 8
	for range words {
		offs = append(offs, off)
		if off > math.MaxUint64-8 {
			break
		}
		off += 8
	}
	return flushed(offs)
}

// P10.1.
func TestPersist(t *testing.T) {
	bases := []uint64{0, 640, 1 << 32, 1<<63 - 64, math.MaxUint64 - 1023, math.MaxUint64 - 200}
	for _, base := range bases {
		for k := range uint64(201) {
			for _, words := range []int{math.MinInt, -8, -1, 0, 1, 2, 3, 7, 8, 9, 15, 16, 17, 24, 40} {
				off := base + k
				if p, want := mem.Persist(off, words), persistent(off, max(words, 0)); !slices.Equal(p, want) {
					t.Fatalf("Persist(%d, %d) is %v, want %v", off, words, p, want)
				}
			}
		}
	}
}

// Where the words go beyond 2^64, their number does not matter.
func TestPersistToTheEnd(t *testing.T) {
	const last = math.MaxUint64 - 63
	flush := func(off uint64) mem.Instr { return mem.Instr{Op: mem.FlushOp, Off: off} }
	fence := mem.Instr{Op: mem.FenceOp}
	for _, words := range []int{17, 1 << 31, 1 << 61, math.MaxInt} {
		for off, want := range map[uint64]mem.Program{
			last:               {flush(last), fence},
			last + 63:          {flush(last), fence},
			last - 1:           {flush(last - 64), flush(last), fence},
			last - 64:          {flush(last - 64), flush(last), fence},
			math.MaxUint64 - 7: {flush(last), fence},
		} {
			if p := mem.Persist(off, words); !slices.Equal(p, want) {
				t.Errorf("Persist(%d, %d) is %v, want %v", off, words, p, want)
			}
		}
	}
}

func TestPersistManyWords(t *testing.T) {
	p := mem.Persist(8, 1<<20)
	if len(p) != 1<<17+2 || p[0].Off != 0 || p[1<<17].Off != 1<<23 || p.Fences() != 1 || p[1<<17+1].Op != mem.FenceOp {
		t.Error(len(p), p[0], p[len(p)-2:])
	}
}

func TestStores(t *testing.T) {
	s := sequence(21)
	for range 3000 {
		ws := make([]mem.Write, s.below(8))
		var want mem.Program
		var offs []uint64
		for k := range ws {
			ws[k] = mem.Write{Off: uint64(s.below(400)), Value: s.next()}
			if s.below(3) == 0 {
				ws[k].Off = ws[s.below(k+1)].Off
			}
			want = append(want, mem.Instr{Op: mem.StoreOp, Off: ws[k].Off, Value: ws[k].Value})
			offs = append(offs, ws[k].Off)
		}
		want = append(want, flushed(offs)...)
		before := slices.Clone(ws)
		p := mem.Stores(ws)
		if !slices.Equal(p, want) {
			t.Fatalf("Stores(%v) is %v, want %v", ws, p, want)
		}
		sameWrites(t, "the argument", ws, before)
		sameWrites(t, "the program", p.Writes(), before)
	}
	if p := mem.Stores(nil); len(p) != 0 {
		t.Error(p)
	}
	if p := mem.Stores([]mem.Write{}); len(p) != 0 {
		t.Error(p)
	}
}

func TestStoresAnywhere(t *testing.T) {
	p := mem.Stores([]mem.Write{{Off: math.MaxUint64, Value: 1}, {Off: 1 << 63, Value: 2}, {Off: 3, Value: 3}, {Off: math.MaxUint64 - 63, Value: 4}})
	want := []string{
		"store 18446744073709551615 1", "store 9223372036854775808 2", "store 3 3", "store 18446744073709551552 4",
		"flush 0", "flush 9223372036854775808", "flush 18446744073709551552", "fence",
	}
	if !slices.Equal(calls(p), want) {
		t.Error(calls(p))
	}
	for _, i := range p {
		if i.Op == mem.FlushOp && i.Value != 0 || i.Op == mem.FenceOp && i != (mem.Instr{Op: mem.FenceOp}) {
			t.Error("a field that is not used is not 0:", i)
		}
	}
}

// What Stores returns makes its writes persistent.
func TestStoresOnADevice(t *testing.T) {
	s := sequence(22)
	for range 300 {
		d, _ := device.New(4)
		want, _ := device.New(4)
		ws := make([]mem.Write, 1+s.below(12))
		for k := range ws {
			ws[k] = mem.Write{Off: uint64(s.below(32)) * 8, Value: s.next()}
			want.Thread(0).Store(ws[k].Off, ws[k].Value)
		}
		if err := mem.Stores(ws).Run(d.Thread(1)); err != api.OK {
			t.Fatal(err)
		}
		if !slices.Equal(d.Persisted(), want.Current()) || len(d.Dirty()) != 0 {
			t.Fatalf("%v: the lines %v are not persistent", ws, d.Dirty())
		}
	}
}

// P10.2.
func TestRun(t *testing.T) {
	s := sequence(23)
	for range 1000 {
		p := s.program()
		before := slices.Clone(p)
		r := &recorder{err: api.Errno(s.below(4))}
		if err := p.Run(r); err != r.err {
			t.Fatalf("%v: %v, want %v", p, err, r.err)
		}
		r.check(t, calls(p)...)
		if !slices.Equal(p, before) {
			t.Fatalf("%v became %v", before, p)
		}
	}
}

func TestRunErrors(t *testing.T) {
	ok := mem.Program{{Op: mem.StoreOp, Off: 8, Value: 1}, {Op: mem.FlushOp, Off: 8}, {Op: mem.FenceOp}}
	for _, op := range []mem.Op{0, 4, 5, 128, 255} {
		for at := range len(ok) + 1 {
			p := slices.Insert(slices.Clone(ok), at, mem.Instr{Op: op})
			r := &recorder{err: api.ErrOff}
			if err := p.Run(r); err != api.ErrArg {
				t.Errorf("%v: %v", p, err)
			}
			r.check(t)
		}
	}
	for _, p := range []mem.Program{nil, {}, ok, {{}}} {
		if err := p.Run(nil); err != api.ErrArg {
			t.Errorf("%v without a memory: %v", p, err)
		}
		if err := p.Run((*device.Thread)(nil)); err != api.ErrArg {
			t.Errorf("%v on a nil thread: %v", p, err)
		}
	}
	for _, p := range []mem.Program{nil, {}} {
		for _, want := range []api.Errno{api.OK, api.ErrRange, api.ErrOff} {
			r := &recorder{err: want}
			if err := p.Run(r); err != want {
				t.Errorf("the empty program: %v, want %v", err, want)
			}
			r.check(t)
		}
	}
}

// An error that occurs does not end a program, and a field that an instruction does not use does not matter.
func TestRunOnADevice(t *testing.T) {
	d, _ := device.New(2)
	p := mem.Program{
		{Op: mem.StoreOp, Off: 4, Value: 1}, {Op: mem.StoreOp, Off: 128, Value: 1}, {Op: mem.StoreOp, Off: 64, Value: 9},
		{Op: mem.FlushOp, Off: 127, Value: 5}, {Op: mem.FenceOp, Off: math.MaxUint64, Value: 6},
	}
	if err := p.Run(d.Thread(0)); err != api.ErrRange {
		t.Error(err)
	}
	if d.Persisted()[64] != 9 || d.Executed() != 3 {
		t.Error(d.Persisted(), d.Executed())
	}
	d.Arm(1)
	if err := p[2:].Run(d.Thread(1)); err != api.ErrOff || d.Executed() != 4 {
		t.Error(err, d.Executed())
	}
}

func TestFencesAndWrites(t *testing.T) {
	s := sequence(24)
	for range 1000 {
		p := s.program()
		if s.below(3) == 0 {
			p = append(p, mem.Instr{Op: mem.Op(s.below(256)), Off: s.next(), Value: s.next()})
		}
		fences := 0
		var ws []mem.Write
		for _, i := range p {
			switch i.Op {
			case mem.FenceOp:
				fences++
			case mem.StoreOp:
				ws = append(ws, mem.Write{Off: i.Off, Value: i.Value})
			}
		}
		if p.Fences() != fences {
			t.Fatalf("%v has %d fences", p, p.Fences())
		}
		sameWrites(t, "a program", p.Writes(), ws)
	}
}

func TestWithout(t *testing.T) {
	s := sequence(25)
	for range 1000 {
		p := s.program()
		if s.below(3) == 0 {
			p = append(p, mem.Instr{Op: mem.Op(s.below(256)), Off: s.next(), Value: s.next()})
		}
		before := slices.Clone(p)
		var fences []int
		for k, i := range p {
			if i.Op == mem.FenceOp {
				fences = append(fences, k)
			}
		}
		for _, fence := range []int{math.MinInt, -1, 0, 1, 2, 3, 4, len(fences) - 1, len(fences), len(fences) + 1, math.MaxInt} {
			want := slices.Clone(p)
			if 0 <= fence && fence < len(fences) {
				want = slices.Delete(want, fences[fence], fences[fence]+1)
			}
			got := p.Without(fence)
			if !slices.Equal(got, want) {
				t.Fatalf("%v without the fence %d is %v, want %v", p, fence, got, want)
			}
			spoil(got)
		}
		if !slices.Equal(p, before) {
			t.Fatalf("%v became %v", before, p)
		}
	}
}

func TestThen(t *testing.T) {
	s := sequence(26)
	for range 1000 {
		p, q := slices.Grow(s.program(), s.below(20)), s.program()
		if s.below(3) == 0 {
			q = append(q, mem.Instr{Op: mem.Op(s.below(256)), Off: s.next(), Value: s.next()})
		}
		beforeP, beforeQ := slices.Clone(p), slices.Clone(q)
		first, second := p.Then(q), p.Then(p)
		if !slices.Equal(first, append(slices.Clone(p), q...)) || !slices.Equal(second, append(slices.Clone(p), p...)) {
			t.Fatalf("%v then %v is %v", p, q, first)
		}
		spoil(first)
		spoil(second)
		if !slices.Equal(p, beforeP) || !slices.Equal(q, beforeQ) {
			t.Fatalf("%v and %v became %v and %v", beforeP, beforeQ, p, q)
		}
	}
	one := mem.Program{{Op: mem.FenceOp}}
	for _, p := range []mem.Program{one.Then(nil), mem.Program(nil).Then(one)} {
		if !slices.Equal(p, one) {
			t.Error(p)
		}
		spoil(p)
	}
	if one.Fences() != 1 || len(mem.Program(nil).Then(nil)) != 0 {
		t.Error("empty programs")
	}
}
