package device

import "bedrock/api"

// Thread executes instructions on a device. It implements mem.Memory.
type Thread struct {
	device *Device
	id     int
	err    api.Errno
	// notes contains a position in the sequence of a line's stores, by the number of the line.
	notes map[int]uint64
}

// fail keeps the first error.
func (t *Thread) fail(e api.Errno) {
	if t.err == api.OK {
		t.err = e
	}
}

// admit reports whether an instruction can be executed, given whether its offset is valid.
func (t *Thread) admit(valid bool) bool {
	if t == nil {
		return false
	}
	if t.device.off {
		t.fail(api.ErrOff)
		return false
	}
	if !valid {
		t.fail(api.ErrRange)
	}
	return valid
}

// count is admit for a counted instruction, at which the power can fail.
func (t *Thread) count(valid bool) bool {
	if !t.admit(valid) {
		return false
	}
	if !t.device.tick() {
		t.fail(api.ErrOff)
		return false
	}
	return true
}

// isWord reports whether off is the offset of a word.
func (t *Thread) isWord(off uint64) bool {
	return off%api.WordSize == 0 && off < t.Size()
}

// Load returns the current value of a word.
func (t *Thread) Load(off uint64) uint64 {
	if !t.admit(t.isWord(off)) {
		return 0
	}
	return t.device.lineOf(off).current[place(off)]
}

// Store stores a word.
func (t *Thread) Store(off, v uint64) {
	if t.count(t.isWord(off)) {
		t.device.lineOf(off).store(off, v)
	}
}

// CAS stores new if the word's current value is old, and reports whether it did.
func (t *Thread) CAS(off, old, new uint64) bool {
	if !t.count(t.isWord(off)) {
		return false
	}
	l := t.device.lineOf(off)
	if l.current[place(off)] != old {
		return false
	}
	l.store(off, new)
	return true
}

// Flush notes the present history of the line that contains off.
func (t *Thread) Flush(off uint64) {
	if !t.count(off < t.Size()) {
		return
	}
	if t.notes == nil {
		t.notes = map[int]uint64{}
	}
	t.notes[int(off/api.LineSize)] = t.device.lineOf(off).end()
}

// Fence persists the histories that the thread has noted.
func (t *Thread) Fence() {
	if !t.count(true) {
		return
	}
	for n, position := range t.notes {
		t.device.lines[n].persistTo(position)
	}
	clear(t.notes)
}

// Size returns the size of the device.
func (t *Thread) Size() uint64 {
	if t == nil {
		return 0
	}
	return t.device.Size()
}

// Err returns the first error of the thread's instructions.
func (t *Thread) Err() api.Errno {
	if t == nil {
		return api.ErrArg
	}
	return t.err
}

// ID returns the thread's number.
func (t *Thread) ID() int {
	if t == nil {
		return 0
	}
	return t.id
}
