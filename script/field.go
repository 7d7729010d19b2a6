package script

import (
	"math"
	"slices"
	"strconv"

	"bedrock/api"
)

// maxChoice is the greatest number of bytes of a choice.
const maxChoice = 512

// field is the number of a field of an event.
type field int

const (
	thread field = iota
	off
	value
	old
	line
	count
	choice
	fields
)

// form is what the line of a kind of events consists of: a name and fields.
type form struct {
	name   string
	fields []field
}

// lineOf returns the form of the lines of a kind; no name if there is no such kind.
func lineOf(k Kind) form {
	switch k {
	case Store:
		return form{"store", []field{thread, off, value}}
	case CAS:
		return form{"cas", []field{thread, off, old, value}}
	case Flush:
		return form{"flush", []field{thread, off}}
	case Fence:
		return form{"fence", []field{thread}}
	case WriteBack:
		return form{"writeback", []field{line, count}}
	case Arm:
		return form{"arm", []field{count}}
	case Crash:
		return form{"crash", []field{choice}}
	}
	return form{}
}

func (l form) has(f field) bool {
	return slices.Contains(l.fields, f)
}

// fits reports whether a field that the event's kind uses is valid.
func (e Event) fits(f field) bool {
	switch f {
	case thread:
		return 0 <= e.Thread && e.Thread < api.MaxThreads
	case line:
		return 0 <= e.Line && e.Line < api.MaxLines
	case count:
		return (0 <= e.N || e.N == -1 && e.Kind == Arm) && e.N <= math.MaxInt32
	case choice:
		return len(e.Choice) <= maxChoice
	}
	return true
}

func (e Event) isZero(f field) bool {
	switch f {
	case thread:
		return e.Thread == 0
	case off:
		return e.Off == 0
	case value:
		return e.Value == 0
	case old:
		return e.Old == 0
	case line:
		return e.Line == 0
	case count:
		return e.N == 0
	case choice:
		return len(e.Choice) == 0
	}
	return true
}

// word returns the word of a field in the event's line.
func (e Event) word(f field) string {
	switch f {
	case thread:
		return strconv.Itoa(e.Thread)
	case off:
		return strconv.FormatUint(e.Off, 10)
	case value:
		return strconv.FormatUint(e.Value, 10)
	case old:
		return strconv.FormatUint(e.Old, 10)
	case line:
		return strconv.Itoa(e.Line)
	case count:
		return strconv.Itoa(e.N)
	case choice:
		return hex(e.Choice)
	}
	return ""
}

// read sets a field to what its word in a line says. A word that is none of that field sets some value with another word.
func (e *Event) read(f field, s string) {
	switch f {
	case thread:
		e.Thread, _ = strconv.Atoi(s)
	case off:
		e.Off, _ = strconv.ParseUint(s, 10, 64)
	case value:
		e.Value, _ = strconv.ParseUint(s, 10, 64)
	case old:
		e.Old, _ = strconv.ParseUint(s, 10, 64)
	case line:
		e.Line, _ = strconv.Atoi(s)
	case count:
		e.N, _ = strconv.Atoi(s)
	case choice:
		e.Choice = unhex(s)
	}
}
