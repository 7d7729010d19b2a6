package redo

import (
	"slices"

	"bedrock/api"
	"bedrock/mem"
)

// lastWrites returns the writes without each one whose offset occurs again later.
func lastWrites(ws []mem.Write) []mem.Write {
	seen := map[uint64]bool{}
	var last []mem.Write
	for _, w := range slices.Backward(ws) {
		if !seen[w.Off] {
			seen[w.Off] = true
			last = append(last, w)
		}
	}
	slices.Reverse(last)
	return last
}

// setCommitWord returns the program that makes w the commit word.
func (l *Log) setCommitWord(w uint64) mem.Program {
	return mem.Stores([]mem.Write{{Off: l.start, Value: w}})
}

// record returns the program that stores the entries of the writes.
func (l *Log) record(ws []mem.Write) mem.Program {
	var words []mem.Write
	for i, w := range ws {
		at := l.entryAt(i)
		words = append(words, mem.Write{Off: at, Value: w.Off}, mem.Write{Off: at + api.WordSize, Value: w.Value})
	}
	return mem.Stores(words)
}

// apply returns the program that executes the writes of a committed log and makes it idle.
func (l *Log) apply(ws []mem.Write) mem.Program {
	return mem.Stores(ws).Then(l.setCommitWord(idleWord))
}

// checkIdle returns the memory's error, or ErrState if the log is not idle.
func (l *Log) checkIdle() api.Errno {
	found := l.memory.Load(l.start)
	// The power can have failed before or at the load: then what was loaded means nothing.
	if err := l.memory.Err(); err != api.OK {
		return err
	}
	if found != idleWord {
		return api.ErrState
	}
	return api.OK
}

// Plan returns the program that Commit executes.
func (l *Log) Plan(ws []mem.Write) (mem.Program, api.Errno) {
	if l == nil || !l.canWriteAll(ws) {
		return nil, api.ErrArg
	}
	last := lastWrites(ws)
	if len(last) > api.MaxWrites {
		return nil, api.ErrLimit
	}
	if err := l.checkIdle(); err != api.OK {
		return nil, err
	}
	if len(last) == 0 {
		return nil, api.OK
	}
	return l.record(last).Then(l.setCommitWord(commitWord(last))).Then(l.apply(last)), api.OK
}

// Commit stores all the writes, failure-atomically and durably.
func (l *Log) Commit(ws []mem.Write) api.Errno {
	p, err := l.Plan(ws)
	if err != api.OK {
		return err
	}
	return p.Run(l.memory)
}

// Recover applies a committed log and returns the number of its writes.
func (l *Log) Recover() (int, api.Errno) {
	if l == nil {
		return 0, api.ErrArg
	}
	state, ws := l.read()
	// A log that was read while the power failed can look idle or damaged.
	if err := l.memory.Err(); err != api.OK {
		return 0, err
	}
	switch state {
	case Idle:
		return 0, api.OK
	case Damaged:
		return 0, api.ErrSum
	}
	if err := l.apply(ws).Run(l.memory); err != api.OK {
		return 0, err
	}
	return len(ws), api.OK
}
