package root

import (
	"bedrock/api"
	"bedrock/mem"
	"bedrock/pptr"
)

// Actions returns the word writes that add a name with its pointer, replace the pointer, or remove the name (for a nil p).
func (d *Directory) Actions(name string, p pptr.Ptr) ([]mem.Write, api.Errno) {
	if d == nil {
		return nil, api.ErrArg
	}
	if !Name(name) {
		return nil, api.ErrName
	}
	if !p.Nil() && !p.Valid(d.memory.Size()) {
		return nil, api.ErrArg
	}
	entries, err := d.entries()
	if err != api.OK {
		return nil, err
	}
	e := entries.find(name)
	switch {
	case e < 0 && p.Nil():
		return nil, api.ErrNone
	case e < 0:
		return d.add(entries.free(), newEntry(name, p))
	case p.Nil():
		return []mem.Write{{Off: d.wordOf(e, tagWord)}}, api.OK
	}
	return []mem.Write{{Off: d.wordOf(e, ptrWord), Value: uint64(p)}}, api.OK
}

// add returns the writes of a new entry, if there is a free place for it. The tag is the last one: the line has it only together with the other words.
func (d *Directory) add(free int, e entry) ([]mem.Write, api.Errno) {
	if free < 0 {
		return nil, api.ErrFull
	}
	var writes []mem.Write
	for i, w := range e {
		writes = append(writes, mem.Write{Off: d.wordOf(free, i), Value: w})
	}
	return writes, api.OK
}

// Plan returns the program that Set executes.
func (d *Directory) Plan(name string, p pptr.Ptr) (mem.Program, api.Errno) {
	writes, err := d.Actions(name, p)
	if err != api.OK {
		return nil, err
	}
	return mem.Stores(writes), api.OK
}

// Set adds a name with its pointer, or replaces the pointer of a name.
func (d *Directory) Set(name string, p pptr.Ptr) api.Errno {
	if p.Nil() && Name(name) {
		return api.ErrArg
	}
	return d.change(name, p)
}

// Remove removes a name.
func (d *Directory) Remove(name string) api.Errno {
	return d.change(name, 0)
}

// change executes the program of Plan.
func (d *Directory) change(name string, p pptr.Ptr) api.Errno {
	program, err := d.Plan(name, p)
	if err != api.OK {
		return err
	}
	return program.Run(d.memory)
}
