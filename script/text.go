package script

import (
	"strings"

	"bedrock/api"
)

// digits are the hexadecimal digits.
const digits = "0123456789abcdef"

// hex returns two digits for each byte, or - if there is none.
func hex(p []byte) string {
	if len(p) == 0 {
		return "-"
	}
	s := make([]byte, 0, 2*len(p))
	for _, b := range p {
		s = append(s, digits[b>>4], digits[b&15])
	}
	return string(s)
}

// unhex returns the bytes whose hex is s, if there are any.
func unhex(s string) []byte {
	if len(s) > 2*maxChoice {
		return nil
	}
	var p []byte
	for k := 0; k+1 < len(s); k += 2 {
		high := strings.IndexByte(digits, s[k])
		low := strings.IndexByte(digits, s[k+1])
		if high < 0 || low < 0 {
			return nil
		}
		p = append(p, byte(high<<4|low))
	}
	return p
}

// Text returns the line of a valid event.
func (e Event) Text() string {
	if !e.Valid() {
		return ""
	}
	l := lineOf(e.Kind)
	words := []string{l.name}
	for _, f := range l.fields {
		words = append(words, e.word(f))
	}
	return strings.Join(words, " ")
}

// Text returns the text of valid events.
func Text(l []Event) string {
	var text strings.Builder
	for _, e := range l {
		if s := e.Text(); s != "" {
			text.WriteString(s)
			text.WriteByte('\n')
		}
	}
	return text.String()
}

// Parse returns the events of a text, or the number of the first invalid line.
func Parse(s string) ([]Event, int, api.Errno) {
	var events []Event
	number := 0
	for text := range strings.SplitSeq(s, "\n") {
		number++
		if text == "" || text[0] == '#' {
			continue
		}
		e, is := parseLine(text)
		if !is {
			return nil, number, api.ErrForm
		}
		if len(events) == api.MaxScript {
			return nil, number, api.ErrLimit
		}
		events = append(events, e)
	}
	return events, 0, api.OK
}

// parseLine returns the event of a line that is not empty. Each valid event has one line only, so the fields are read without care and the line is compared.
func parseLine(s string) (Event, bool) {
	// A line has at most five words; one more is enough to see that there are too many.
	words := strings.SplitN(s, " ", 6)
	e := Event{Kind: kindOf(words[0])}
	for k, f := range lineOf(e.Kind).fields {
		if k+1 < len(words) {
			e.read(f, words[k+1])
		}
	}
	return e, e.Text() == s
}

// kindOf returns the kind with that name, or 0.
func kindOf(name string) Kind {
	for k := Store; k <= Crash; k++ {
		if lineOf(k).name == name {
			return k
		}
	}
	return 0
}
