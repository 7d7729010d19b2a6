package layout

import "bedrock/api"

// Type is the type of a field.
type Type byte

// The types of fields, with 64, 64, 32, 16, 8, 1 and 64 bits.
const (
	U64 Type = 1 + iota
	I64
	U32
	U16
	U8
	Flag
	Pointer
)

// width returns the number of bits of an element, 0 if there is no such type.
func (t Type) width() int {
	switch t {
	case U64, I64, Pointer:
		return 64
	case U32:
		return 32
	case U16:
		return 16
	case U8:
		return 8
	case Flag:
		return 1
	}
	return 0
}

// Field is a named array of Count elements.
type Field struct {
	Name  string
	Type  Type
	Count int
}

// check returns the first error of the fields, apart from their size.
func check(fields []Field) api.Errno {
	names := map[string]bool{}
	for _, f := range fields {
		if !isName(f.Name) {
			return api.ErrName
		}
		if f.Type.width() == 0 || f.Count < 1 {
			return api.ErrArg
		}
		if names[f.Name] {
			return api.ErrExists
		}
		names[f.Name] = true
	}
	return api.OK
}

// isName reports whether s is a letter followed by letters, digits and _, and not too long.
func isName(s string) bool {
	if s == "" || len(s) > api.MaxName || !isLetter(s[0]) {
		return false
	}
	for i := range len(s) {
		if !isLetter(s[i]) && !isDigit(s[i]) && s[i] != '_' {
			return false
		}
	}
	return true
}

func isLetter(c byte) bool {
	return 'A' <= c && c <= 'Z' || 'a' <= c && c <= 'z'
}

func isDigit(c byte) bool {
	return '0' <= c && c <= '9'
}
