package undo

import (
	"bedrock/api"
	"bedrock/mem"
)

func (l *Log) canSaveAll(offs []uint64) bool {
	for _, off := range offs {
		if !l.canSave(off) {
			return false
		}
	}
	return true
}

// unsaved returns the words at those of the offsets that are not saved yet, each once, with their present values.
func (l *Log) unsaved(offs []uint64, saved []mem.Write) []mem.Write {
	known := map[uint64]bool{}
	for _, w := range saved {
		known[w.Off] = true
	}
	var ws []mem.Write
	for _, off := range offs {
		if !known[off] {
			known[off] = true
			ws = append(ws, mem.Write{Off: off, Value: l.memory.Load(off)})
		}
	}
	return ws
}

// appendEntries returns the program that stores entries behind the n that are there, and only then counts them.
func (l *Log) appendEntries(n int, ws []mem.Write) mem.Program {
	var words []mem.Write
	for i, w := range ws {
		at := l.entryAt(n + i)
		words = append(words, mem.Write{Off: at, Value: w.Off}, mem.Write{Off: at + api.WordSize, Value: w.Value})
	}
	return mem.Stores(words).Then(l.setCount(n + len(ws)))
}

// Plan returns the program of Save.
func (l *Log) Plan(offs []uint64) (mem.Program, api.Errno) {
	if l == nil || !l.canSaveAll(offs) {
		return nil, api.ErrArg
	}
	saved := l.Saved()
	added := l.unsaved(offs, saved)
	// What was loaded means nothing if the power has failed.
	if err := l.memory.Err(); err != api.OK {
		return nil, err
	}
	if len(saved)+len(added) > l.Capacity() {
		return nil, api.ErrFull
	}
	if len(added) == 0 {
		return nil, api.OK
	}
	return l.appendEntries(len(saved), added), api.OK
}

// Save saves the present values of the words at these offsets, except those that are saved already.
func (l *Log) Save(offs []uint64) api.Errno {
	p, err := l.Plan(offs)
	if err != api.OK {
		return err
	}
	return p.Run(l.memory)
}
