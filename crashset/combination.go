package crashset

import (
	"bytes"
	"math/bits"
	"slices"

	"bedrock/api"
	"bedrock/device"
	"bedrock/image"
)

// combination is a combination of a device, which can be changed into others. It shares no memory with the device.
type combination struct {
	persisted []byte
	// histories are those of the lines of Dirty, in ascending order of lines.
	histories [][]device.Write
	// digits are the numbers of applied stores of these lines, and content is the persisted content with them.
	digits  []int
	content []byte
}

// base returns the base of the digit of a line with that history.
func base(history []device.Write) uint64 {
	return uint64(len(history)) + 1
}

// first returns the combination 0.
func first(d *device.Device) *combination {
	c := &combination{persisted: d.Persisted()}
	for _, line := range d.Dirty() {
		c.histories = append(c.histories, d.History(line))
	}
	c.digits = make([]int, len(c.histories))
	c.content = bytes.Clone(c.persisted)
	return c
}

// numbered returns the combination n.
func numbered(d *device.Device, n uint64) (*combination, api.Errno) {
	if d == nil {
		return nil, api.ErrArg
	}
	c := first(d)
	for at, history := range slices.Backward(c.histories) {
		for range n % base(history) {
			c.apply(at)
		}
		n /= base(history)
	}
	if n > 0 {
		return nil, api.ErrRange
	}
	return c, api.OK
}

// smallest returns the combination with the smallest number that yields an image. Because the lines are independent, its digits are the smallest ones that yield the lines.
func smallest(d *device.Device, i image.Image) (*combination, bool) {
	if d == nil || i.Lines() != d.Lines() {
		return nil, false
	}
	c := first(d)
	want := i.Bytes()
	for at := range c.digits {
		for !bytes.Equal(c.line(at, c.content), c.line(at, want)) {
			if !c.apply(at) {
				return nil, false
			}
		}
	}
	return c, bytes.Equal(c.content, want)
}

// line returns the bytes of the line of a digit, as a part of the bytes of all lines.
func (c *combination) line(at int, p []byte) []byte {
	begin := c.histories[at][0].Off / api.LineSize * api.LineSize
	return p[begin : begin+api.LineSize]
}

// apply applies the next store of a line's history, if there is one: the digit grows by one.
func (c *combination) apply(at int) bool {
	history := c.histories[at]
	if c.digits[at] == len(history) {
		return false
	}
	w := history[c.digits[at]]
	for k := range uint64(api.WordSize) {
		c.content[w.Off+k] = byte(w.Value >> (8 * k))
	}
	c.digits[at]++
	return true
}

// next changes the combination into that with the next number, if there is one.
func (c *combination) next() bool {
	for at := range slices.Backward(c.digits) {
		if c.apply(at) {
			return true
		}
		copy(c.line(at, c.content), c.line(at, c.persisted))
		c.digits[at] = 0
	}
	return false
}

// number returns the combination's number, if it is less than 2^62.
func (c *combination) number() (uint64, bool) {
	n := uint64(0)
	for at, k := range c.digits {
		high, low := bits.Mul64(n, base(c.histories[at]))
		if high > 0 || low >= most || low+uint64(k) >= most {
			return 0, false
		}
		n = low + uint64(k)
	}
	return n, true
}

// contents counts the different contents that a line can have.
func (c *combination) contents(at int) int {
	seen := map[string]bool{string(c.line(at, c.content)): true}
	for c.apply(at) {
		seen[string(c.line(at, c.content))] = true
	}
	return len(seen)
}

func (c *combination) image() image.Image {
	i, _ := image.New(c.content)
	return i
}
