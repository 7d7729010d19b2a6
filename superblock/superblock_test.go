package superblock_test

import (
	"math"
	"testing"

	"bedrock/api"
	"bedrock/device"
	sb "bedrock/superblock"
)

// The chapter's examples.
func TestExamples(t *testing.T) {
	s := sb.Super{Version: 1, Lines: 128, Redo: 26, Undo: 26, Descriptors: 8}
	starts := []int{0, 2, 10, 36, 62, 70, 71, 71, 71}
	for i, want := range starts {
		line, lines, err := s.Region(sb.RegionSuper + sb.Region(i))
		if line != want || err != api.OK || i == 8 && lines != 32 {
			t.Error(i, line, lines, err)
		}
	}
	d, _ := device.New(128)
	m := d.Thread(0)
	if err := sb.Format(m, s); err != api.OK {
		t.Fatal(err)
	}
	opens(t, m, generation(s, 1), api.OK, api.ErrSum)
	if err := sb.Update(m, s); err != api.OK {
		t.Fatal(err)
	}
	opens(t, m, generation(s, 2), api.OK, api.OK)
	p, _ := sb.Plan(m, s)
	if len(p) != 11 || len(p.Writes()) != 9 {
		t.Fatal(p)
	}
	p[:5].Run(m)
	images(t, d, func(after *device.Device) {
		if x, err := sb.Open(after.Thread(0)); err != api.OK || x != generation(s, 2) {
			t.Fatal(x, err)
		}
	})
}

func TestConstants(t *testing.T) {
	if sb.Magic != 7738151121853964849 || sb.ChunkLines != 32 || sb.RegionSuper != 1 || sb.RegionRoots != 2 || sb.RegionRedo != 3 || sb.RegionUndo != 4 || sb.RegionDescriptors != 5 || sb.RegionEpochs != 6 || sb.RegionQueue != 7 || sb.RegionTable != 8 || sb.RegionHeap != 9 {
		t.Error("a constant")
	}
}

// fields returns the fields of s that Valid looks at.
func fields(s *sb.Super) []*int {
	return []*int{&s.Version, &s.Lines, &s.Redo, &s.Undo, &s.Descriptors, &s.Queue, &s.Table}
}

func checkValid(t *testing.T, s sb.Super) {
	t.Helper()
	if s.Valid() != isValid(s) {
		t.Fatalf("%+v: %v", s, s.Valid())
	}
}

// P13.1: each field at its borders, in descriptions that are valid otherwise.
func TestValidFields(t *testing.T) {
	extremes := []int{math.MinInt, math.MinInt + 1, math.MinInt32, -65536, -4096, -2, -1, 0, 1, 2, 31, 32, 33, 4095, 4096, 4097, 65535, 65536, 65537, 1 << 17, math.MaxInt32, 1 << 32, 1<<32 + 1, 1 << 48, math.MaxInt/2 + 1, math.MaxInt - 1, math.MaxInt}
	for _, base := range []sb.Super{small(1), {Version: 65535, Lines: 4096, Redo: 26, Undo: 26, Descriptors: 8}, {Version: 7, Lines: 200, Redo: 30, Undo: 40, Descriptors: 50, Queue: 20, Table: 10}} {
		if !base.Valid() {
			t.Fatal(base)
		}
		for i := range fields(&base) {
			for _, v := range extremes {
				s := base
				*fields(&s)[i] = v
				checkValid(t, s)
				for j := range fields(&base) {
					for _, w := range extremes {
						r := s
						*fields(&r)[j] = w
						checkValid(t, r)
					}
				}
			}
		}
	}
}

// P13.1: sums of sizes that overflow to a number that would leave a heap.
func TestValidOverflow(t *testing.T) {
	for i := range 5 {
		for j := range i {
			s := sb.Super{Version: 1, Lines: 128, Redo: 1, Undo: 1, Descriptors: 1}
			*fields(&s)[2+i] = math.MaxInt
			*fields(&s)[2+j] = math.MaxInt
			checkValid(t, s)
			s.Lines = 4096
			for k := range 3 {
				*fields(&s)[2+k] = math.MaxInt/2 + 1
				checkValid(t, s)
			}
		}
	}
}

// P13.1: heaps around the smallest one.
func TestValidHeap(t *testing.T) {
	s := sequence(11)
	for range 20000 {
		r := sb.Super{Version: 1, Redo: 1 + s.below(900), Undo: 1 + s.below(900), Descriptors: 1 + s.below(900), Queue: s.below(900), Table: s.below(900)}
		for i := range 5 {
			if s.below(3) == 0 {
				*fields(&r)[2+i] = s.below(2)
			}
		}
		r.Lines = 11 + r.Redo + r.Undo + r.Descriptors + r.Queue + r.Table + 32 + s.below(5) - 2
		checkValid(t, r)
		if a, b := r.Valid(), generation(r, s.next()).Valid(); a != b {
			t.Fatal("Gen matters", r)
		}
	}
	least := sb.Super{Version: 1, Lines: 46, Redo: 1, Undo: 1, Descriptors: 1}
	if !least.Valid() {
		t.Error(least)
	}
	least.Lines--
	if least.Valid() || (sb.Super{}).Valid() {
		t.Error(least)
	}
}

// checkRegions compares the regions of a valid s with a walk from line 0 on.
func checkRegions(t *testing.T, s sb.Super) {
	t.Helper()
	at := 0
	for i, want := range []int{2, 8, s.Redo, s.Undo, s.Descriptors, 1, s.Queue, s.Table} {
		line, lines, err := s.Region(sb.Region(i + 1))
		if line != at || lines != want || err != api.OK {
			t.Fatalf("%+v, region %d: %d, %d, %v, want %d, %d", s, i+1, line, lines, err, at, want)
		}
		at += want
	}
	heap := (s.Lines - at) / 32 * 32
	if line, lines, err := s.Region(sb.RegionHeap); line != at || lines != heap || err != api.OK {
		t.Fatalf("%+v, heap: %d, %d, %v, want %d, %d", s, line, lines, err, at, heap)
	}
}

func hasNoRegion(t *testing.T, s sb.Super, r sb.Region) {
	t.Helper()
	if line, lines, err := s.Region(r); line != 0 || lines != 0 || err != api.ErrArg {
		t.Fatalf("%+v, region %d: %d, %d, %v", s, r, line, lines, err)
	}
}

// P13.1.
func TestRegion(t *testing.T) {
	s := sequence(12)
	for range 2000 {
		r := s.random(64 + s.below(4096-64+1))
		checkRegions(t, r)
		hasNoRegion(t, r, 0)
		for n := 10; n < 256; n++ {
			hasNoRegion(t, r, sb.Region(n))
		}
		*fields(&r)[s.below(7)] = []int{-1, 65536, math.MinInt, math.MaxInt}[s.below(4)]
		for n := range 256 {
			hasNoRegion(t, r, sb.Region(n))
		}
	}
	for lines := 46; lines <= 4096; lines++ {
		checkRegions(t, sb.Super{Version: 1, Lines: lines, Redo: 1, Undo: 1, Descriptors: 1})
	}
	for n := range 256 {
		hasNoRegion(t, sb.Super{Version: 1, Lines: 45, Redo: 1, Undo: 1, Descriptors: 1}, sb.Region(n))
	}
}
