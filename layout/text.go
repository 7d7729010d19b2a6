package layout

import (
	"strconv"
	"strings"

	"bedrock/api"
)

// word returns the name of a type in texts, nothing if there is no such type.
func (t Type) word() string {
	switch t {
	case U64:
		return "u64"
	case I64:
		return "i64"
	case U32:
		return "u32"
	case U16:
		return "u16"
	case U8:
		return "u8"
	case Flag:
		return "flag"
	case Pointer:
		return "pointer"
	}
	return ""
}

// text returns the field as text, without the space before it and the semicolon.
func (f Field) text() string {
	text := f.Name + " " + f.Type.word()
	if f.Count != 1 {
		text += "[" + strconv.Itoa(f.Count) + "]"
	}
	return text
}

// Text returns the layout as text.
func (l Layout) Text() string {
	if len(l.slots) == 0 {
		return ""
	}
	var b strings.Builder
	b.WriteString(l.name + " v" + strconv.Itoa(l.version) + " {")
	for _, s := range l.slots {
		b.WriteString(" " + s.Field.text() + ";")
	}
	b.WriteString(" }")
	return b.String()
}

// Parse returns the layout whose Text is s. Each layout has one text only, so the parts are read without care and the text is compared.
func Parse(s string) (Layout, api.Errno) {
	if s == "" {
		return Layout{}, api.OK
	}
	name, rest, _ := strings.Cut(s, " v")
	versionText, rest, _ := strings.Cut(rest, " {")
	version, _ := strconv.Atoi(versionText)
	l, err := New(name, version, parseFields(strings.TrimSuffix(rest, " }")))
	if err != api.OK || l.Text() != s {
		return Layout{}, api.ErrForm
	}
	return l, api.OK
}

// parseFields returns the fields of a text that consists of a space, a field and a semicolon for each, up to the first one for which no layout has room.
func parseFields(s string) []Field {
	var fields []Field
	for s != "" && len(fields) <= maxBits {
		text, rest, _ := strings.Cut(s, ";")
		fields = append(fields, parseField(strings.TrimPrefix(text, " ")))
		s = rest
	}
	return fields
}

// parseField returns the field with that text; its type or its count is not valid if the text has none.
func parseField(text string) Field {
	name, rest, _ := strings.Cut(text, " ")
	word, countText, counted := strings.Cut(rest, "[")
	f := Field{Name: name, Type: parseType(word), Count: 1}
	if counted {
		f.Count, _ = strconv.Atoi(strings.TrimSuffix(countText, "]"))
	}
	return f
}

// parseType returns the type with that name, or 0.
func parseType(word string) Type {
	for t := U64; t <= Pointer; t++ {
		if t.word() == word {
			return t
		}
	}
	return 0
}
