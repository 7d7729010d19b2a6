package superblock

import (
	"math"

	"bedrock/api"
	"bedrock/mem"
)

// linesOf returns the number of lines of a memory.
func linesOf(m mem.Memory) uint64 {
	return m.Size() / api.LineSize
}

// canHold reports whether m is a memory that has both copies.
func canHold(m mem.Memory) bool {
	return m != nil && linesOf(m) >= copies
}

// check returns the error of the arguments of a function that writes s.
func check(m mem.Memory, s Super) api.Errno {
	if !canHold(m) || !s.Valid() || uint64(s.Lines) > linesOf(m) {
		return api.ErrArg
	}
	return m.Err()
}

// read returns what the copies of a memory are.
func read(m mem.Memory) (pair, api.Errno) {
	if !canHold(m) {
		return pair{}, api.ErrArg
	}
	if err := m.Err(); err != api.OK {
		return pair{}, err
	}
	p := pair{find(m, 0), find(m, 1)}
	// What was loaded means nothing if the power failed meanwhile.
	if err := m.Err(); err != api.OK {
		return pair{}, err
	}
	return p, api.OK
}

// Plan returns the program that Update executes.
func Plan(m mem.Memory, s Super) (mem.Program, api.Errno) {
	if err := check(m, s); err != api.OK {
		return nil, err
	}
	p, err := read(m)
	if err != api.OK {
		return nil, err
	}
	newest, err := p.newest()
	if err != api.OK {
		return nil, err
	}
	gen := p[newest].super.Gen
	if gen == math.MaxUint64 {
		return nil, api.ErrLimit
	}
	s.Gen = gen + 1
	return s.write(other(newest)), api.OK
}

// Format writes s as the only valid copy, with generation 1.
func Format(m mem.Memory, s Super) api.Errno {
	if err := check(m, s); err != api.OK {
		return err
	}
	var none []mem.Write
	for number := range copies {
		none = append(none, mem.Write{Off: wordOf(number, checkWord)})
	}
	s.Gen = 1
	// The fence between the programs makes that no former copy can be found beside s.
	return mem.Stores(none).Then(s.write(0)).Run(m)
}

// Update replaces the older copy by s with the next generation.
func Update(m mem.Memory, s Super) api.Errno {
	p, err := Plan(m, s)
	if err != api.OK {
		return err
	}
	return p.Run(m)
}

// Open returns the valid copy with the larger generation.
func Open(m mem.Memory) (Super, api.Errno) {
	p, err := read(m)
	if err != api.OK {
		return Super{}, err
	}
	newest, err := p.newest()
	if err != api.OK {
		return Super{}, err
	}
	return p[newest].super, api.OK
}

// Check returns the state of the two copies.
func Check(m mem.Memory) (first, second api.Errno) {
	p, err := read(m)
	if err != api.OK {
		return err, err
	}
	return p[0].state(), p[1].state()
}

// Repair rewrites a damaged copy from the other one and returns the number of copies rewritten.
func Repair(m mem.Memory) (int, api.Errno) {
	p, err := read(m)
	if err != api.OK {
		return 0, err
	}
	newest, err := p.newest()
	if err != api.OK {
		return 0, err
	}
	damaged := other(newest)
	if p[damaged].good {
		return 0, api.OK
	}
	if err := p[newest].super.write(damaged).Run(m); err != api.OK {
		return 0, err
	}
	return 1, api.OK
}
