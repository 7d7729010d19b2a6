package mem

import "bedrock/api"

// Meter is a memory that counts the accesses that pass through it. It implements Memory.
type Meter struct {
	base                           Memory
	loads, stores, flushes, fences int
}

// Count returns a meter over m with all counts 0.
func Count(m Memory) *Meter {
	return &Meter{base: m}
}

// hasBase reports whether c is a meter of something.
func (c *Meter) hasBase() bool {
	return c != nil && c.base != nil
}

// Load counts a load and returns the base memory's.
func (c *Meter) Load(off uint64) uint64 {
	if !c.hasBase() {
		return 0
	}
	c.loads++
	return c.base.Load(off)
}

// Store counts a store and executes it.
func (c *Meter) Store(off, v uint64) {
	if c.hasBase() {
		c.stores++
		c.base.Store(off, v)
	}
}

// Flush counts a flush and executes it.
func (c *Meter) Flush(off uint64) {
	if c.hasBase() {
		c.flushes++
		c.base.Flush(off)
	}
}

// Fence counts a fence and executes it.
func (c *Meter) Fence() {
	if c.hasBase() {
		c.fences++
		c.base.Fence()
	}
}

// Size returns the size of the base memory.
func (c *Meter) Size() uint64 {
	if !c.hasBase() {
		return 0
	}
	return c.base.Size()
}

// Err returns the error of the base memory.
func (c *Meter) Err() api.Errno {
	if !c.hasBase() {
		return api.ErrArg
	}
	return c.base.Err()
}

// Loads returns the number of loads.
func (c *Meter) Loads() int {
	if c == nil {
		return 0
	}
	return c.loads
}

// Stores returns the number of stores.
func (c *Meter) Stores() int {
	if c == nil {
		return 0
	}
	return c.stores
}

// Flushes returns the number of flushes.
func (c *Meter) Flushes() int {
	if c == nil {
		return 0
	}
	return c.flushes
}

// Fences returns the number of fences.
func (c *Meter) Fences() int {
	if c == nil {
		return 0
	}
	return c.fences
}
