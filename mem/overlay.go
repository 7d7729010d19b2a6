package mem

import (
	"cmp"
	"slices"

	"bedrock/api"
)

// Overlay is a memory that buffers stores over another memory. It implements Memory.
type Overlay struct {
	base  Memory
	words map[uint64]uint64
	// log contains the buffered stores in their order, also those that later ones hide: the words at a mark are made of it again.
	log []Write
	// marks contains the valid marks in the order in which they were made.
	marks []point
	// made counts the marks ever made. It numbers them, so that an invalid mark never becomes valid again.
	made int
	// missed reports whether there was a store to an offset that is not a word's.
	missed bool
}

// point is what a mark stands for: the state after the first stores of the log.
type point struct {
	number, stores int
}

// Over returns an overlay without buffered stores.
func Over(m Memory) *Overlay {
	return &Overlay{base: m, words: map[uint64]uint64{}}
}

// hasBase reports whether o is an overlay of something.
func (o *Overlay) hasBase() bool {
	return o != nil && o.base != nil
}

// Load returns the buffered value of a word, or the base memory's.
func (o *Overlay) Load(off uint64) uint64 {
	if !o.hasBase() {
		return 0
	}
	if v, is := o.words[off]; is {
		return v
	}
	return o.base.Load(off)
}

// Store buffers a store.
func (o *Overlay) Store(off, v uint64) {
	if !o.hasBase() {
		return
	}
	if off%api.WordSize != 0 || off >= o.base.Size() {
		o.missed = true
		return
	}
	o.words[off] = v
	o.log = append(o.log, Write{Off: off, Value: v})
}

// Flush has no effect.
func (o *Overlay) Flush(off uint64) {}

// Fence has no effect.
func (o *Overlay) Fence() {}

// Size returns the size of the base memory.
func (o *Overlay) Size() uint64 {
	if !o.hasBase() {
		return 0
	}
	return o.base.Size()
}

// Err returns the base memory's error, or ErrRange after a store to an offset that is not a word of it.
func (o *Overlay) Err() api.Errno {
	if !o.hasBase() {
		return api.ErrArg
	}
	if err := o.base.Err(); err != api.OK {
		return err
	}
	if o.missed {
		return api.ErrRange
	}
	return api.OK
}

// Mark returns a mark of the present state, for Rollback.
func (o *Overlay) Mark() int {
	if !o.hasBase() {
		return 0
	}
	p := point{number: o.made, stores: len(o.log)}
	o.marks = append(o.marks, p)
	o.made++
	return p.number
}

// Rollback drops the stores that were buffered after the mark was made; later marks become invalid.
func (o *Overlay) Rollback(mark int) api.Errno {
	if !o.hasBase() {
		return api.ErrArg
	}
	at, is := slices.BinarySearchFunc(o.marks, mark, byNumber)
	if !is {
		return api.ErrArg
	}
	o.restore(o.marks[at].stores)
	o.marks = o.marks[:at+1]
	return api.OK
}

func byNumber(p point, number int) int {
	return cmp.Compare(p.number, number)
}

// restore makes the state after the first stores of the log.
func (o *Overlay) restore(stores int) {
	// Without spare capacity the next store moves the log, which frees the dropped ones.
	o.log = o.log[:stores:stores]
	clear(o.words)
	for _, w := range o.log {
		o.words[w.Off] = w.Value
	}
}

// Writes returns the buffered words by increasing offset, each with its last value.
func (o *Overlay) Writes() []Write {
	if !o.hasBase() {
		return nil
	}
	var ws []Write
	for off, v := range o.words {
		ws = append(ws, Write{Off: off, Value: v})
	}
	slices.SortFunc(ws, byOffset)
	return ws
}

func byOffset(a, b Write) int {
	return cmp.Compare(a.Off, b.Off)
}

// Buffered returns the buffered value of a word, and whether there is one.
func (o *Overlay) Buffered(off uint64) (uint64, bool) {
	if !o.hasBase() {
		return 0, false
	}
	v, is := o.words[off]
	return v, is
}
