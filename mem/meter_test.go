package mem_test

import (
	"fmt"
	"testing"

	"bedrock/api"
	"bedrock/device"
	"bedrock/mem"
)

// counts is what a meter has counted.
type counts struct {
	loads, stores, flushes, fences int
}

func of(c *mem.Meter) counts {
	return counts{c.Loads(), c.Stores(), c.Flushes(), c.Fences()}
}

// P10.6.
func TestMeter(t *testing.T) {
	s := sequence(51)
	r := &recorder{size: 640}
	c := mem.Count(r)
	var want counts
	for range 1000 {
		if got := of(c); got != want {
			t.Fatalf("the counts are %v, want %v", got, want)
		}
		off, v := s.next(), s.next()
		switch s.below(5) {
		case 0:
			if got := c.Load(off); got != valueAt(off) {
				t.Fatalf("the word at %d is %d", off, got)
			}
			want.loads++
			r.check(t, fmt.Sprintf("load %d", off))
		case 1:
			c.Store(off, v)
			want.stores++
			r.check(t, fmt.Sprintf("store %d %d", off, v))
		case 2:
			c.Flush(off)
			want.flushes++
			r.check(t, fmt.Sprintf("flush %d", off))
		case 3:
			c.Fence()
			want.fences++
			r.check(t, "fence")
		default:
			r.size, r.err = off, api.Errno(v%18)
			if c.Size() != off || c.Err() != r.err {
				t.Fatalf("the size is %d, the error %v", c.Size(), c.Err())
			}
			r.check(t)
		}
	}
}

// A call counts whatever its effect is.
func TestMeterOfADevice(t *testing.T) {
	d, _ := device.New(1)
	c := mem.Count(d.Thread(0))
	c.Load(3)
	c.Store(64, 1)
	c.Flush(64)
	if got := of(c); got != (counts{1, 1, 1, 0}) || c.Err() != api.ErrRange || c.Size() != 64 || d.Executed() != 0 {
		t.Error(got, c.Err(), c.Size())
	}
	d.Arm(0)
	for range 3 {
		c.Fence()
		c.Store(0, 1)
	}
	if got := of(c); got != (counts{1, 4, 1, 3}) || d.Executed() != 0 || c.Load(0) != 0 || c.Loads() != 2 {
		t.Error(got)
	}
}

func TestMeterOfPrograms(t *testing.T) {
	s := sequence(52)
	for range 500 {
		p := s.program()
		d, _ := device.New(4)
		d.Arm(s.below(12) - 1)
		want := counts{stores: len(p.Writes()), flushes: len(p) - len(p.Writes()) - p.Fences(), fences: p.Fences()}
		c := mem.Count(d.Thread(0))
		outer := mem.Count(c)
		if err := p.Run(outer); err != d.Thread(0).Err() || of(c) != want || of(outer) != want {
			t.Fatalf("%v: %v, %v, %v, want %v", p, err, of(c), of(outer), want)
		}
	}
}

// Only what an overlay takes from its base is counted below it.
func TestMeterBelowAnOverlay(t *testing.T) {
	d, _ := device.New(1)
	c := mem.Count(d.Thread(0))
	o := mem.Over(c)
	o.Store(0, 1)
	o.Load(0)
	o.Load(8)
	o.Flush(0)
	o.Fence()
	o.Writes()
	o.Buffered(8)
	if of(c) != (counts{loads: 1}) {
		t.Error(of(c))
	}
}

func TestMeterOfNothing(t *testing.T) {
	if mem.Count(nil) == nil {
		t.Fatal("no meter")
	}
	for k, c := range []*mem.Meter{nil, mem.Count(nil)} {
		c.Store(0, 1)
		c.Flush(0)
		c.Fence()
		if c.Load(0) != 0 || c.Size() != 0 || c.Err() != api.ErrArg || of(c) != (counts{}) {
			t.Errorf("meter %d: %d, %v, %v", k, c.Size(), c.Err(), of(c))
		}
	}
	// A nil thread is a memory, on which calls have no effect.
	c := mem.Count((*device.Thread)(nil))
	c.Store(0, 1)
	if c.Load(0) != 0 || c.Err() != api.ErrArg || of(c) != (counts{loads: 1, stores: 1}) {
		t.Error(c.Err(), of(c))
	}
}
