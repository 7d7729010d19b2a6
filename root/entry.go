package root

import (
	"slices"
	"strings"

	"bedrock/api"
	"bedrock/crc"
	"bedrock/pptr"
	"bedrock/word"
)

// The words of an entry.
const (
	nameWords  = api.MaxName / api.WordSize
	ptrWord    = nameWords
	tagWord    = nameWords + 1
	entryWords = nameWords + 2
)

// tagMark makes a tag differ from 0, whatever the checksum is.
const tagMark = 1 << 32

// Name reports whether s is a valid name: a letter followed by letters, digits and _, at most api.MaxName bytes.
func Name(s string) bool {
	if s == "" || len(s) > api.MaxName || !isLetter(s[0]) {
		return false
	}
	for i := range len(s) {
		if !isLetter(s[i]) && !isDigit(s[i]) && s[i] != '_' {
			return false
		}
	}
	return true
}

func isLetter(b byte) bool {
	return 'a' <= b && b <= 'z' || 'A' <= b && b <= 'Z'
}

func isDigit(b byte) bool {
	return '0' <= b && b <= '9'
}

// entry contains the words of an entry.
type entry [entryWords]uint64

// newEntry returns the entry of a name.
func newEntry(name string, p pptr.Ptr) entry {
	var padded [api.MaxName]byte
	copy(padded[:], name)
	var e entry
	copy(e[:nameWords], word.Pack(padded[:]))
	e[ptrWord] = uint64(p)
	e[tagWord] = e.tag()
	return e
}

// tag returns the tag that belongs to the name.
func (e entry) tag() uint64 {
	return tagMark + uint64(crc.Words(e[:nameWords]))
}

func (e entry) isFree() bool {
	return e[tagWord] == 0
}

// isIntact reports whether an entry that is not free is as newEntry returns it.
func (e entry) isIntact() bool {
	return e[tagWord] == e.tag() && Name(e.name())
}

// name returns the bytes of the name up to the last one that is not 0: a name contains no zero bytes.
func (e entry) name() string {
	padded, _ := word.Unpack(e[:nameWords], api.MaxName)
	return strings.TrimRight(string(padded), "\x00")
}

func (e entry) ptr() pptr.Ptr {
	return pptr.Ptr(e[ptrWord])
}

// table contains the entries of a directory.
type table [api.MaxRoots]entry

// check returns the error of damaged entries.
func (t table) check() api.Errno {
	var names []string
	for _, e := range t {
		if e.isFree() {
			continue
		}
		if !e.isIntact() {
			return api.ErrSum
		}
		names = append(names, e.name())
	}
	slices.Sort(names)
	if len(slices.Compact(names)) < len(names) {
		return api.ErrForm
	}
	return api.OK
}

// find returns the number of the first entry of a name, or -1.
func (t table) find(name string) int {
	return slices.IndexFunc(t[:], func(e entry) bool { return !e.isFree() && e.name() == name })
}

// free returns the lowest number of a free entry, or -1.
func (t table) free() int {
	return slices.IndexFunc(t[:], entry.isFree)
}
