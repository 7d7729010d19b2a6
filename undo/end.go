package undo

import (
	"bedrock/api"
	"bedrock/mem"
)

// load returns whether the log is empty, and the saved words that are words of the memory outside of the region.
func (l *Log) load() (empty bool, ws []mem.Write, e api.Errno) {
	if l == nil {
		return false, nil, api.ErrArg
	}
	saved := l.Saved()
	// What was loaded means nothing if the power has failed.
	if err := l.memory.Err(); err != api.OK {
		return false, nil, err
	}
	for _, w := range saved {
		if l.canSave(w.Off) {
			ws = append(ws, w)
		}
	}
	return len(saved) == 0, ws, api.OK
}

// PlanCommit returns the program of Commit.
func (l *Log) PlanCommit() (mem.Program, api.Errno) {
	empty, ws, err := l.load()
	if err != api.OK || empty {
		return nil, err
	}
	// The saved words stay as they are: of the program that stores them only what follows the stores is needed.
	flushes := mem.Stores(ws)[len(ws):]
	return flushes.Then(l.setCount(0)), api.OK
}

// Commit persists the saved words as they are now and empties the log.
func (l *Log) Commit() api.Errno {
	p, err := l.PlanCommit()
	if err != api.OK {
		return err
	}
	return p.Run(l.memory)
}

// Rollback restores the saved values and empties the log.
func (l *Log) Rollback() api.Errno {
	_, err := l.Recover()
	return err
}

// Recover performs Rollback and returns the number of restored words.
func (l *Log) Recover() (int, api.Errno) {
	empty, ws, err := l.load()
	if err != api.OK || empty {
		return 0, err
	}
	if err := mem.Stores(ws).Then(l.setCount(0)).Run(l.memory); err != api.OK {
		return 0, err
	}
	return len(ws), api.OK
}
