package undo_test

import (
	"math"
	"slices"
	"testing"

	"bedrock/api"
	"bedrock/mem"
)

// ends checks the programs of Commit, Rollback and Recover for a log with these entries, of which some are skipped.
func ends(t *testing.T, content *recorder, r region, saved []mem.Write) {
	t.Helper()
	isSkipped := func(w mem.Write) bool {
		return w.Off%8 != 0 || w.Off >= content.size || w.Off/64 >= uint64(r.line) && w.Off/64 < uint64(r.line+r.lines)
	}
	left := slices.DeleteFunc(slices.Clone(saved), isSkipped)
	var commits, restores mem.Program
	switch {
	case len(saved) == 0:
	case len(left) == 0:
		commits, restores = r.counting(0), r.counting(0)
	default:
		commits, restores = r.commits(left...), r.restores(left...)
	}
	m := content.copy()
	for range 2 {
		p, err := r.open(t, m).PlanCommit()
		if err != api.OK {
			t.Fatal(err)
		}
		sameProgram(t, "PlanCommit", p, commits)
		clear(p[:cap(p)])
	}
	r.has(t, m, saved...)
	if err := r.open(t, m).Commit(); err != api.OK {
		t.Fatal(err)
	}
	sameProgram(t, "Commit", m.program, commits)
	r.has(t, m)
	m = content.copy()
	if err := r.open(t, m).Rollback(); err != api.OK {
		t.Fatal(err)
	}
	sameProgram(t, "Rollback", m.program, restores)
	r.has(t, m)
	m = content.copy()
	if n, err := r.open(t, m).Recover(); n != len(left) || err != api.OK {
		t.Fatal(n, err)
	}
	sameProgram(t, "Recover", m.program, restores)
	r.has(t, m)
}

// P16.2: the programs, for entries of any kind.
func TestEnds(t *testing.T) {
	s := sequence(4)
	for _, r := range []region{{0, 2}, {5, 2}, {3, 4}, {0, 26}, {10, 30}} {
		all := r.words(50)
		bad := []uint64{1, 4, r.offset(0) + 4, r.offset(0), r.offset(5), r.offset(8), r.offset(8*r.lines - 1), 50*64 - 1, 50 * 64, 50*64 + 8, 1 << 32, 1 << 63, math.MaxUint64 - 7, math.MaxUint64}
		for _, likely := range []int{0, 1, 5, 10} {
			for n := range min(r.capacity(), 30) + 1 {
				var saved []mem.Write
				for range n {
					off := all[s.below(len(all))]
					if s.below(10) < likely {
						off = bad[s.below(len(bad))]
					}
					saved = append(saved, mem.Write{Off: off, Value: s.next()})
				}
				m := newRecorder(50)
				m.put(r, saved...)
				ends(t, m, r, saved)
			}
		}
	}
}

// The borders of the region and of the memory.
func TestSkippedEntries(t *testing.T) {
	r := region{2, 3}
	for _, off := range []uint64{0, 8, 120, 121, 127, 128, 136, 184, 192, 256, 312, 313, 319, 320, 324, 328, 632, 633, 639, 640, 648, 1 << 40, math.MaxUint64} {
		for at := range 3 {
			saved := []mem.Write{{Off: 0, Value: 1}, {Off: 400, Value: 2}, {Off: 64, Value: 3}}
			saved[at].Off = off
			m := newRecorder(10)
			m.put(r, saved...)
			ends(t, m, r, saved)
			m.put(r, saved[at])
			ends(t, m, r, saved[at:at+1])
		}
	}
}

// An offset that damage has put twice into the log is restored in the order of the entries, and flushed once.
func TestEqualEntries(t *testing.T) {
	r := region{0, 3}
	saved := []mem.Write{{Off: 320, Value: 1}, {Off: 200, Value: 2}, {Off: 328, Value: 3}, {Off: 320, Value: 4}}
	m := newRecorder(6)
	m.put(r, saved...)
	ends(t, m, r, saved)
	if n, err := r.open(t, m).Recover(); n != 4 || err != api.OK || m.words[320] != 4 {
		t.Error(n, err, m.words[320])
	}
}

// Instruction by instruction.
func TestExampleOfEnds(t *testing.T) {
	r := region{1, 2}
	m := newRecorder(6)
	m.put(r, mem.Write{Off: 264, Value: 6}, mem.Write{Off: 0, Value: 5}, mem.Write{Off: 256, Value: 4})
	rest := mem.Program{
		{Op: mem.FlushOp, Off: 0}, {Op: mem.FlushOp, Off: 256}, {Op: mem.FenceOp},
		{Op: mem.StoreOp, Off: 64, Value: 0}, {Op: mem.FlushOp, Off: 64}, {Op: mem.FenceOp},
	}
	p, err := r.open(t, m).PlanCommit()
	if err != api.OK {
		t.Fatal(err)
	}
	sameProgram(t, "PlanCommit", p, rest)
	if err := r.open(t, m).Rollback(); err != api.OK {
		t.Fatal(err)
	}
	stores := mem.Program{{Op: mem.StoreOp, Off: 264, Value: 6}, {Op: mem.StoreOp, Off: 0, Value: 5}, {Op: mem.StoreOp, Off: 256, Value: 4}}
	sameProgram(t, "Rollback", m.program, append(stores, rest...))
}
