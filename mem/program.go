package mem

import (
	"math"
	"slices"

	"bedrock/api"
)

// Op is the kind of an instruction.
type Op byte

// The kinds of instructions.
const (
	StoreOp Op = 1 + iota
	FlushOp
	FenceOp
)

// Instr is an instruction. A store uses Off and Value, a flush uses Off, a fence neither.
type Instr struct {
	Op         Op
	Off, Value uint64
}

// isValid reports whether there is such an instruction.
func (i Instr) isValid() bool {
	return StoreOp <= i.Op && i.Op <= FenceOp
}

func (i Instr) execute(m Memory) {
	switch i.Op {
	case StoreOp:
		m.Store(i.Off, i.Value)
	case FlushOp:
		m.Flush(i.Off)
	case FenceOp:
		m.Fence()
	}
}

// Program is a list of instructions that one thread executes in order.
type Program []Instr

// lineStart returns the offset of the first byte of the line that contains off.
func lineStart(off uint64) uint64 {
	return off - off%api.LineSize
}

// Persist returns a flush of each line that the given words touch, in increasing order, and a fence.
func Persist(off uint64, words int) Program {
	if words < 1 {
		return nil
	}
	first := off - off%api.WordSize
	room := (math.MaxUint64 - first) / api.WordSize
	last := first + min(uint64(words-1), room)*api.WordSize
	var p Program
	// Lines are counted by their numbers because the offset behind the last one can overflow.
	for n := first / api.LineSize; n <= last/api.LineSize; n++ {
		p = append(p, Instr{Op: FlushOp, Off: n * api.LineSize})
	}
	return append(p, Instr{Op: FenceOp})
}

// Stores returns the stores in order, a flush of each line that they touch, in increasing order, and a fence.
func Stores(ws []Write) Program {
	if len(ws) == 0 {
		return nil
	}
	var p Program
	var lines []uint64
	for _, w := range ws {
		p = append(p, Instr{Op: StoreOp, Off: w.Off, Value: w.Value})
		lines = append(lines, lineStart(w.Off))
	}
	slices.Sort(lines)
	for _, off := range slices.Compact(lines) {
		p = append(p, Instr{Op: FlushOp, Off: off})
	}
	return append(p, Instr{Op: FenceOp})
}

// canRun reports whether m is a memory on which all instructions of the program can be executed.
func (p Program) canRun(m Memory) bool {
	for _, i := range p {
		if !i.isValid() {
			return false
		}
	}
	return m != nil
}

// Run executes the program and returns m.Err().
func (p Program) Run(m Memory) api.Errno {
	if !p.canRun(m) {
		return api.ErrArg
	}
	for _, i := range p {
		i.execute(m)
	}
	return m.Err()
}

// Fences returns the number of fences.
func (p Program) Fences() int {
	n := 0
	for _, i := range p {
		if i.Op == FenceOp {
			n++
		}
	}
	return n
}

// Without returns the program without the fence of that index (from 0).
func (p Program) Without(fence int) Program {
	var rest Program
	n := 0
	for _, i := range p {
		if i.Op == FenceOp {
			n++
			if n-1 == fence {
				continue
			}
		}
		rest = append(rest, i)
	}
	return rest
}

// Then returns p followed by q.
func (p Program) Then(q Program) Program {
	return slices.Concat(p, q)
}

// Writes returns the stores in order.
func (p Program) Writes() []Write {
	var ws []Write
	for _, i := range p {
		if i.Op == StoreOp {
			ws = append(ws, Write{Off: i.Off, Value: i.Value})
		}
	}
	return ws
}
