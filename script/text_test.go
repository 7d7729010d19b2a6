package script_test

import (
	"bytes"
	"math"
	"regexp"
	"slices"
	"strconv"
	"strings"
	"testing"

	"bedrock/api"
	"bedrock/script"
)

func equalEvents(a, b script.Event) bool {
	return a.Kind == b.Kind && a.Thread == b.Thread && a.Off == b.Off && a.Value == b.Value && a.Old == b.Old && a.Line == b.Line && a.N == b.N && bytes.Equal(a.Choice, b.Choice)
}

// pair is a valid event and its line.
type pair struct {
	event script.Event
	line  string
}

func pairs() []pair {
	longest := make([]byte, 512)
	for k := range longest {
		longest[k] = byte(k)
	}
	return []pair{
		{script.Event{Kind: script.Store}, "store 0 0 0"},
		{script.Event{Kind: script.Store, Thread: 7, Off: 64, Value: 10}, "store 7 64 10"},
		{script.Event{Kind: script.Store, Thread: 1, Off: math.MaxUint64, Value: math.MaxUint64 - 1}, "store 1 18446744073709551615 18446744073709551614"},
		{script.Event{Kind: script.CAS}, "cas 0 0 0 0"},
		{script.Event{Kind: script.CAS, Thread: 2, Off: 8, Old: 3, Value: 4}, "cas 2 8 3 4"},
		{script.Event{Kind: script.CAS, Thread: 7, Off: 1 << 63, Old: math.MaxUint64, Value: 1<<63 - 1}, "cas 7 9223372036854775808 18446744073709551615 9223372036854775807"},
		{script.Event{Kind: script.Flush}, "flush 0 0"},
		{script.Event{Kind: script.Flush, Thread: 3, Off: 129}, "flush 3 129"},
		{script.Event{Kind: script.Fence}, "fence 0"},
		{script.Event{Kind: script.Fence, Thread: 7}, "fence 7"},
		{script.Event{Kind: script.WriteBack}, "writeback 0 0"},
		{script.Event{Kind: script.WriteBack, Line: 4095, N: math.MaxInt32}, "writeback 4095 2147483647"},
		{script.Event{Kind: script.Arm}, "arm 0"},
		{script.Event{Kind: script.Arm, N: -1}, "arm -1"},
		{script.Event{Kind: script.Arm, N: math.MaxInt32}, "arm 2147483647"},
		{script.Event{Kind: script.Crash}, "crash -"},
		{script.Event{Kind: script.Crash, Choice: []byte{}}, "crash -"},
		{script.Event{Kind: script.Crash, Choice: []byte{0}}, "crash 00"},
		{script.Event{Kind: script.Crash, Choice: []byte{15, 160}}, "crash 0fa0"},
		{script.Event{Kind: script.Crash, Choice: []byte{0x01, 0x23, 0x45, 0x67, 0x89, 0xab, 0xcd, 0xef, 0xff}}, "crash 0123456789abcdefff"},
		{script.Event{Kind: script.Crash, Choice: longest}, "crash " + hexOf(longest)},
	}
}

func hexOf(p []byte) string {
	s := ""
	for _, b := range p {
		s += strconv.FormatUint(uint64(b)+256, 16)[1:]
	}
	return s
}

// P6.1: the events of the table and their lines.
func TestLines(t *testing.T) {
	for _, p := range pairs() {
		if !p.event.Valid() || p.event.Text() != p.line {
			t.Errorf("%t, %q, want %q", p.event.Valid(), p.event.Text(), p.line)
		}
		for _, text := range []string{p.line, p.line + "\n", "\n#\n" + p.line} {
			l, n, e := script.Parse(text)
			if len(l) != 1 || n != 0 || e != api.OK || !equalEvents(l[0], p.event) {
				t.Errorf("Parse(%q) = %v, %d, %d", text, l, n, e)
			}
		}
		if got := script.Text([]script.Event{p.event}); got != p.line+"\n" {
			t.Errorf("Text = %q", got)
		}
	}
}

// invalid returns events that differ from valid ones in one field.
func invalid() []script.Event {
	all := []script.Event{
		{},
		{Kind: 8},
		{Kind: 255},
		{Kind: script.WriteBack, Line: -1},
		{Kind: script.WriteBack, Line: 4096},
		{Kind: script.WriteBack, Line: math.MinInt},
		{Kind: script.WriteBack, N: -1},
		{Kind: script.WriteBack, N: math.MaxInt32 + 1},
		{Kind: script.Arm, N: -2},
		{Kind: script.Arm, N: math.MinInt},
		{Kind: script.Arm, N: math.MaxInt32 + 1},
		{Kind: script.Arm, N: math.MaxInt},
		{Kind: script.Crash, Choice: make([]byte, 513)},
	}
	for _, k := range []script.Kind{script.Store, script.CAS, script.Flush, script.Fence} {
		for _, id := range []int{-1, 8, math.MinInt, math.MaxInt} {
			all = append(all, script.Event{Kind: k, Thread: id})
		}
	}
	used := map[script.Kind]string{
		script.Store: "tov", script.CAS: "tovd", script.Flush: "to", script.Fence: "t",
		script.WriteBack: "ln", script.Arm: "n", script.Crash: "c",
	}
	for k, fields := range used {
		for _, other := range "tovdlnc" {
			if !strings.ContainsRune(fields, other) {
				all = append(all, withField(script.Event{Kind: k}, other))
			}
		}
	}
	return all
}

// withField sets a field to a value that is valid where it is used.
func withField(e script.Event, field rune) script.Event {
	switch field {
	case 't':
		e.Thread = 1
	case 'o':
		e.Off = 8
	case 'v':
		e.Value = 1
	case 'd':
		e.Old = 1
	case 'l':
		e.Line = 1
	case 'n':
		e.N = 1
	case 'c':
		e.Choice = []byte{0}
	}
	return e
}

func TestInvalidEvents(t *testing.T) {
	valid := script.Event{Kind: script.Fence}
	for _, e := range invalid() {
		if e.Valid() || e.Text() != "" {
			t.Errorf("%v is valid: %q", e, e.Text())
		}
		if got := script.Text([]script.Event{valid, e, e, valid}); got != "fence 0\nfence 0\n" {
			t.Errorf("Text with %v = %q", e, got)
		}
	}
	if script.Text(nil) != "" || script.Text(invalid()) != "" {
		t.Error("Text of no valid events")
	}
}

func TestEveryKindOfByte(t *testing.T) {
	for k := range 256 {
		if got := (script.Event{Kind: script.Kind(k)}).Valid(); got != (1 <= k && k <= 7) {
			t.Errorf("Valid of the kind %d = %t", k, got)
		}
	}
}

// wrongLines returns lines that are none of a valid event.
func wrongLines() []string {
	lines := []string{
		"Store 0 0 0", "STORE 0 0 0", "stor 0 0 0", "stores 0 0 0", "store", "load 0 0", "s", "-", "0", "7", "1 0 0 0",
		"store 0 0", "store 0 0 0 0", "store 0 0 0 ", " store 0 0 0", "store  0 0 0", "store 0  0 0", "store 0 0  0", "store\t0 0 0", "store 0 0 0\r",
		"store 0 0 0\x00", "\ufeffstore 0 0 0", "store\u00a00 0 0", "store 0 0 0 #", " # a", " ", "\t", "\r", "\x00", "\xff", "store,0,0,0", "store 0 0 0;fence 0",
		"store 8 0 0", "store -1 0 0", "store 00 0 0", "store 01 0 0", "store +1 0 0", "store 0x1 0 0", "store a 0 0", "store - 0 0", "store 18446744073709551616 0 0", "store 18446744073709551615 0 0", "store 4294967296 0 0",
		"store 0 -1 0", "store 0 -0 0", "store 0 +8 0", "store 0 08 0", "store 0 1_0 0", "store 0 1e3 0", "store 0 1.0 0", "store 0 18446744073709551616 0", "store 0 99999999999999999999 0",
		"store 0 0 -1", "store 0 0 00", "store 0 0 18446744073709551616", "store 0 0 0000000000000000000000001", "store 0 0 \u0661", "store 0 0 184467440737095516150",
		"cas 0 0 0", "cas 0 0 0 0 0", "cas 8 0 0 0", "cas 0 0 -1 0", "cas 0 0 01 0", "cas 0 0 0 01", "cas 0 0 18446744073709551616 0", "CAS 0 0 0 0",
		"flush 0", "flush 0 0 0", "flush 8 0", "flush 0 00", "flush 0 x", "flush", "fence", "fence ", "fence 8", "fence 00", "fence 07", "fence -0", "fence 0 0", "fence 0 ",
		"writeback 0", "writeback 0 0 0", "writeback 4096 0", "writeback -1 0", "writeback 00 0", "writeback 0 -1", "writeback 0 2147483648", "writeback 0 00", "writeback 0 4294967296", "writeBack 0 0",
		"arm", "arm -2", "arm -0", "arm -01", "arm 00", "arm +1", "arm --1", "arm -", "arm 2147483648", "arm -2147483648", "arm 18446744073709551615", "arm 1 1", "arm 4294967295",
		"crash", "crash ", "crash --", "crash -0", "crash 0", "crash 000", "crash 0F", "crash 0fA0", "crash 0g", "crash g0", "crash 0f a0", "crash - -", "crash 0fa0 ", "crash 0x0f", "crash 0f-", "crash " + strings.Repeat("00", 513), "crash " + strings.Repeat("00", 512) + "0",
	}
	return append(lines, strings.Repeat(" ", 1000), "store 0 0 "+strings.Repeat("1", 1000))
}

func TestWrongLines(t *testing.T) {
	for _, line := range wrongLines() {
		for number, text := range []string{1: line, 2: "fence 0\n" + line, 3: "#\n\n" + line + "\nfence 0\n", 4: "fence 0\n\n# x\n" + line + "\n\n" + line} {
			if number == 0 {
				continue
			}
			l, n, e := script.Parse(text)
			if len(l) != 0 || n != number || e != api.ErrForm {
				t.Errorf("Parse(%q): %v, %d, %d", text, l, n, e)
			}
		}
	}
}

func TestSkippedLines(t *testing.T) {
	for _, text := range []string{"", "\n", "\n\n\n", "#", "#\n", "# store 0 0 0\n", "##\n\n#\x00\xff\r\n", "#fence 0"} {
		if l, n, e := script.Parse(text); len(l) != 0 || n != 0 || e != api.OK {
			t.Errorf("Parse(%q): %v, %d, %d", text, l, n, e)
		}
	}
	l, n, e := script.Parse("\n#\nfence 1\n\n# fence 2\nfence 3\n\n")
	if len(l) != 2 || n != 0 || e != api.OK || l[0].Thread != 1 || l[1].Thread != 3 {
		t.Errorf("Parse: %v, %d, %d", l, n, e)
	}
}

// P6.1: the limit counts events, and the result counts lines.
func TestLimit(t *testing.T) {
	full := strings.Repeat("fence 0\n", 20000)
	for _, text := range []string{full, full + "\n# a\n", strings.TrimSuffix(full, "\n"), "# a\n" + full} {
		l, n, e := script.Parse(text)
		if len(l) != 20000 || n != 0 || e != api.OK {
			t.Errorf("Parse of 20000 events: %d, %d, %d", len(l), n, e)
		}
	}
	cases := []struct {
		text string
		line int
		want api.Errno
	}{
		{full + "fence 0", 20001, api.ErrLimit},
		{full + "fence 0\nfence 8", 20001, api.ErrLimit},
		{"#\n\n" + full + "\n#\nfence 7\n", 20005, api.ErrLimit},
		{full + "fence 8\n", 20001, api.ErrForm},
		{full + "fence 8\nfence 0\n", 20001, api.ErrForm},
		{full + "\nfence\nfence 0", 20002, api.ErrForm},
		{"fence\n" + full + full, 1, api.ErrForm},
		{"fence 0\nfence 8\n" + full, 2, api.ErrForm},
	}
	for k, c := range cases {
		if l, n, e := script.Parse(c.text); len(l) != 0 || n != c.line || e != c.want {
			t.Errorf("case %d: %d, line %d, %d, want line %d, %d", k, len(l), n, e, c.line, c.want)
		}
	}
}

// grammar matches the lines of valid events, apart from the limits of numbers and choices.
const grammar = `^(?:store N N N|cas N N N N|flush N N|fence N|writeback N N|arm (?:-1|N)|crash (?:-|(?:[0-9a-f]{2})+))$`

// isLine reports whether a text is the line of a valid event, by the words of the chapter.
func isLine(grammar *regexp.Regexp, s string) bool {
	if !grammar.MatchString(s) {
		return false
	}
	words := strings.Split(s, " ")
	limits := map[string][]uint64{
		"store": {7, math.MaxUint64, math.MaxUint64}, "cas": {7, math.MaxUint64, math.MaxUint64, math.MaxUint64}, "flush": {7, math.MaxUint64}, "fence": {7},
		"writeback": {4095, math.MaxInt32}, "arm": {math.MaxInt32}, "crash": nil,
	}
	for k, limit := range limits[words[0]] {
		if words[k+1] == "-1" {
			continue
		}
		v, err := strconv.ParseUint(words[k+1], 10, 64)
		if err != nil || v > limit {
			return false
		}
	}
	return true
}

// P6.1: Parse accepts exactly the lines of valid events: lines that were changed a bit are compared with a grammar.
func TestChangedLines(t *testing.T) {
	number := strings.ReplaceAll(grammar, "N", "(?:0|[1-9][0-9]*)")
	valid := regexp.MustCompile(number)
	s := sequence(3)
	accepted := 0
	for range 60000 {
		line := []byte(s.event().Text())
		for range 1 + s.below(3) {
			line = s.change(line)
		}
		text := string(line)
		if text == "" || text[0] == '#' {
			continue
		}
		want := isLine(valid, text)
		l, n, e := script.Parse(text)
		if want && (len(l) != 1 || n != 0 || e != api.OK || l[0].Text() != text) || !want && (len(l) != 0 || n != 1 || e != api.ErrForm) {
			t.Fatalf("Parse(%q): %v, %d, %d", text, l, n, e)
		}
		if want {
			accepted++
		}
	}
	if accepted < 1000 {
		t.Errorf("only %d changed lines are valid", accepted)
	}
}

// change inserts, removes or replaces a byte.
func (s *sequence) change(line []byte) []byte {
	at := s.below(len(line) + 1)
	b := "0123456789 -#afgsx\t\r+"[s.below(21)]
	switch {
	case at == len(line) || s.below(3) == 0:
		return slices.Insert(line, at, b)
	case s.below(2) == 0:
		return slices.Delete(line, at, at+1)
	}
	line[at] = b
	return line
}

// P6.2.
func TestRoundTrip(t *testing.T) {
	s := sequence(9)
	for _, size := range []int{0, 1, 2, 17, 500, api.MaxScript} {
		var l []script.Event
		for range size {
			l = append(l, s.event())
		}
		text := script.Text(l)
		got, n, e := script.Parse(text)
		if n != 0 || e != api.OK || !slices.EqualFunc(got, l, equalEvents) {
			t.Fatalf("Parse of Text of %d events: %d, %d, %d", size, len(got), n, e)
		}
		if strings.Count(text, "\n") != size || script.Text(got) != text {
			t.Errorf("Text of Parse of %d events", size)
		}
	}
	l, _, _ := script.Parse("# a\n\ncrash -\n#\narm -1")
	if text := script.Text(l); text != "crash -\narm -1\n" {
		t.Errorf("Text = %q", text)
	}
}

// P6.6: events share no memory with each other; the events given are not changed.
func TestEventsShareNoMemory(t *testing.T) {
	text := "crash 0102\ncrash 0304\ncrash 05"
	l, _, _ := script.Parse(text)
	for k := range l {
		_ = append(l[k].Choice, 9, 9, 9, 9)
		for b := range l[k].Choice {
			l[k].Choice[b] = 0xff
		}
	}
	if got := script.Text(l); got != "crash ffff\ncrash ffff\ncrash ff\n" {
		t.Errorf("Text = %q", got)
	}
	if again, _, _ := script.Parse(text); script.Text(again) != text+"\n" {
		t.Error("Parse keeps its result")
	}
	c := []byte{1, 2}
	e := script.Event{Kind: script.Crash, Choice: c}
	e.Text()
	e.Valid()
	if !bytes.Equal(c, []byte{1, 2}) {
		t.Error("Text changes the event")
	}
}

func TestExamplesOfText(t *testing.T) {
	l, n, e := script.Parse("crash 0fa0")
	if len(l) != 1 || n != 0 || e != api.OK || !bytes.Equal(l[0].Choice, []byte{15, 160}) {
		t.Errorf("Parse: %v, %d, %d", l, n, e)
	}
	for text, line := range map[string]int{"store 8 0 1": 1, "# a\n\nfence 07": 3, "arm -2": 1} {
		if l, n, e := script.Parse(text); len(l) != 0 || n != line || e != api.ErrForm {
			t.Errorf("Parse(%q): %v, %d, %d", text, l, n, e)
		}
	}
	if l, n, e := script.Parse("arm -1"); len(l) != 1 || n != 0 || e != api.OK || l[0].N != -1 {
		t.Errorf("Parse: %v, %d, %d", l, n, e)
	}
}
