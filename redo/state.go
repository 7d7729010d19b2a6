package redo

import (
	"math"

	"bedrock/api"
	"bedrock/crc"
	"bedrock/mem"
)

// State is the state of a log.
type State byte

// The states of a log.
const (
	Idle State = 1 + iota
	Committed
	Damaged
)

// idleWord is the commit word of an idle log.
const idleWord = 0

const entrySize = 2 * api.WordSize

// entryAt returns the offset of an entry.
func (l *Log) entryAt(i int) uint64 {
	return l.start + api.LineSize + uint64(i)*entrySize
}

// commitWord returns the commit word of a log with these writes.
func commitWord(ws []mem.Write) uint64 {
	var words []uint64
	for _, w := range ws {
		words = append(words, w.Off, w.Value)
	}
	return uint64(len(ws)) | uint64(crc.Words(words))<<32
}

// read loads the log. It returns the writes of a committed one.
func (l *Log) read() (State, []mem.Write) {
	found := l.memory.Load(l.start)
	if found == idleWord {
		return Idle, nil
	}
	n := found & math.MaxUint16
	if n == 0 || n > api.MaxWrites {
		return Damaged, nil
	}
	ws := make([]mem.Write, n)
	for i := range ws {
		at := l.entryAt(i)
		ws[i] = mem.Write{Off: l.memory.Load(at), Value: l.memory.Load(at + api.WordSize)}
	}
	if found != commitWord(ws) || !l.canWriteAll(ws) {
		return Damaged, nil
	}
	return Committed, ws
}

// Look returns the state of the log in these lines, and its writes if it is committed.
func Look(m mem.Memory, line, lines int) (State, []mem.Write) {
	l, err := Open(m, line, lines)
	if err != api.OK {
		return 0, nil
	}
	return l.read()
}
