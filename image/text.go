package image

import (
	"strconv"
	"strings"

	"bedrock/api"
)

const (
	heading   = "lines "
	hexDigits = 16
	hexBase   = 16
	// fieldSize is what a word takes in a text: a space and its digits.
	fieldSize = 1 + hexDigits
)

// Text returns the image as text, without its zero lines.
func (i Image) Text() string {
	var b strings.Builder
	b.WriteString(heading + strconv.Itoa(i.Lines()) + "\n")
	for n := range i.Lines() {
		if p := i.line(n); !isZero(p) {
			b.WriteString(lineText(n, p) + "\n")
		}
	}
	return b.String()
}

// isZero reports whether all bytes of p are 0.
func isZero(p string) bool {
	return strings.Trim(p, "\x00") == ""
}

// lineText returns the text of the line n with the bytes p, without its line feed.
func lineText(n int, p string) string {
	var b strings.Builder
	b.WriteString(strconv.Itoa(n) + ":")
	for at := 0; at < len(p); at += api.WordSize {
		digits := strconv.FormatUint(wordAt(p, at), hexBase)
		b.WriteString(" " + strings.Repeat("0", hexDigits-len(digits)) + digits)
	}
	return b.String()
}

// Parse returns the image whose Text is s, or the number of the first malformed line, counted from 1.
func Parse(s string) (Image, int, api.Errno) {
	text, rest, ended := strings.Cut(s, "\n")
	lines, ok := parseHeading(text)
	if !ended || !ok {
		return Image{}, 1, api.ErrForm
	}
	p := make([]byte, lines*api.LineSize)
	lowest := 0
	for at := 2; rest != ""; at++ {
		text, rest, ended = strings.Cut(rest, "\n")
		n, bytes, ok := parseLine(text)
		if !ended || !ok || n < lowest || n >= lines {
			return Image{}, at, api.ErrForm
		}
		copy(p[n*api.LineSize:], bytes)
		lowest = n + 1
	}
	return Image{string(p)}, 0, api.OK
}

// parseNumber returns the number with the decimal digits s.
func parseNumber(s string) (int, bool) {
	n, err := strconv.Atoi(s)
	// Atoi also reads signs and leading zeros.
	if err != nil || n < 0 || strconv.Itoa(n) != s {
		return 0, false
	}
	return n, true
}

// parseHeading returns the number of lines that the first line of a text gives.
func parseHeading(text string) (int, bool) {
	digits, found := strings.CutPrefix(text, heading)
	lines, ok := parseNumber(digits)
	if !found || !ok || lines > api.MaxLines {
		return 0, false
	}
	return lines, true
}

// parseLine returns the number and the bytes of a line, given its text.
func parseLine(text string) (int, string, bool) {
	digits, words, _ := strings.Cut(text, ":")
	n, ok := parseNumber(digits)
	if !ok || len(words) != api.LineWords*fieldSize {
		return 0, "", false
	}
	p := ""
	for at := 1; at < len(words); at += fieldSize {
		w, err := strconv.ParseUint(words[at:at+hexDigits], hexBase, 64)
		if err != nil {
			return 0, "", false
		}
		p += wordBytes(w)
	}
	// ParseUint also reads upper-case digits, and the spaces were left out.
	if isZero(p) || lineText(n, p) != text {
		return 0, "", false
	}
	return n, p, true
}
