package pptr

import (
	"strconv"
	"strings"

	"bedrock/api"
)

const (
	nilText   = "-"
	hexPrefix = "0x"
	hexDigits = 16
)

// Text returns the pointer as text: kind:offset#generation, or - for nil.
func (p Ptr) Text() string {
	if p.Nil() {
		return nilText
	}
	if !p.isWellFormed() {
		return hex(uint64(p))
	}
	return decimal(uint64(p.Kind())) + ":" + decimal(p.Off()) + "#" + decimal(uint64(p.Gen()))
}

func decimal(n uint64) string {
	return strconv.FormatUint(n, 10)
}

// hex returns all hexadecimal digits of a word.
func hex(w uint64) string {
	digits := strconv.FormatUint(w, 16)
	return hexPrefix + strings.Repeat("0", hexDigits-len(digits)) + digits
}

// Parse returns the pointer whose Text is s. Each pointer has one text only, so the parts are read without care and the text is compared.
func Parse(s string) (Ptr, api.Errno) {
	if s == nilText {
		return 0, api.OK
	}
	kindText, rest, _ := strings.Cut(s, ":")
	offText, genText, _ := strings.Cut(rest, "#")
	kind, _ := strconv.ParseUint(kindText, 10, 8)
	off, _ := strconv.ParseUint(offText, 10, 64)
	gen, _ := strconv.ParseUint(genText, 10, 16)
	p, err := Make(off, uint16(gen), uint8(kind))
	if err != api.OK || p.Text() != s {
		return 0, api.ErrForm
	}
	return p, api.OK
}
