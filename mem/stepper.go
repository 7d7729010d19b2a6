package mem

import (
	"slices"

	"bedrock/api"
)

// Stepper executes a program instruction by instruction. It has no memory if it could not begin.
type Stepper struct {
	memory Memory
	left   Program
}

// Step returns a stepper at the beginning of p.
func Step(m Memory, p Program) *Stepper {
	if !p.canRun(m) {
		return &Stepper{}
	}
	return &Stepper{memory: m, left: slices.Clone(p)}
}

// Step executes the next instruction and reports whether the program has ended.
func (s *Stepper) Step() bool {
	if s.Left() > 0 {
		s.left[0].execute(s.memory)
		s.left = s.left[1:]
	}
	return s.Left() == 0
}

// Left returns the number of instructions that have not been executed.
func (s *Stepper) Left() int {
	if s == nil {
		return 0
	}
	return len(s.left)
}

// Err returns the memory's error, or ErrArg for a stepper that cannot run.
func (s *Stepper) Err() api.Errno {
	if s == nil || s.memory == nil {
		return api.ErrArg
	}
	return s.memory.Err()
}
