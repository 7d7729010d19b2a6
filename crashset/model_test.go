package crashset_test

import (
	"bytes"
	"slices"
	"testing"

	"bedrock/api"
	"bedrock/device"
	"bedrock/image"
)

// images returns the bytes of the images of all combinations, in the order of their numbers, by the definition: each line's contents, nested.
func images(d *device.Device) [][]byte {
	all := [][]byte{nil}
	for n := range d.Lines() {
		var longer [][]byte
		for _, p := range all {
			for _, content := range contents(d, n) {
				longer = append(longer, slices.Concat(p, content))
			}
		}
		all = longer
	}
	return all
}

// contents returns what a line contains with 0, 1, .. of its history's stores.
func contents(d *device.Device, line int) [][]byte {
	content := d.Persisted()[64*line : 64*line+64]
	all := [][]byte{content}
	for _, w := range d.History(line) {
		content = bytes.Clone(content)
		for k := range uint64(8) {
			content[w.Off%64+k] = byte(w.Value >> (8 * k))
		}
		all = append(all, content)
	}
	return all
}

// indexOf returns the first number of an image, or -1.
func indexOf(all [][]byte, p []byte) int {
	return slices.IndexFunc(all, func(q []byte) bool { return bytes.Equal(p, q) })
}

// different counts the different images.
func different(all [][]byte) int {
	n := 0
	for k, p := range all {
		if indexOf(all, p) == k {
			n++
		}
	}
	return n
}

// sequence yields a fixed irregular sequence of numbers.
type sequence uint64

func (s *sequence) next() uint64 {
	x := *s
	x ^= x << 13
	x ^= x >> 7
	x ^= x << 17
	*s = x
	return uint64(x) * 0x2545f4914f6cdd1d
}

func (s *sequence) below(n int) int {
	return int(s.next() >> 33 % uint64(n))
}

// step executes an instruction, mostly one that can have an effect, and reports whether it appended a store.
func (s *sequence) step(d *device.Device) bool {
	a := d.Thread(s.below(2))
	off := uint64(s.below(d.Lines()))*64 + uint64(s.below(3))*8
	before := len(d.History(int(off / 64)))
	switch s.below(8) {
	case 0, 1, 2:
		a.Store(off, uint64(s.below(3)))
	case 3:
		a.CAS(off, uint64(s.below(2)), uint64(s.below(3)))
	case 4, 5:
		a.Flush(off)
	case 6:
		a.Fence()
	default:
		d.WriteBack(s.below(d.Lines()), s.below(3))
	}
	return len(d.History(int(off/64))) > before
}

// devices returns devices in many states with few combinations.
func devices(t *testing.T) []*device.Device {
	t.Helper()
	var all []*device.Device
	s := sequence(11)
	for range 30 {
		d := newDevice(t, 1+s.below(4))
		for range 25 {
			s.step(d)
			if n := len(images(d)); n > 60 {
				break
			}
			all = append(all, d.Copy())
		}
	}
	return all
}

func newDevice(t *testing.T, lines int) *device.Device {
	t.Helper()
	d, e := device.New(lines)
	if e != api.OK {
		t.Fatal("device.New")
	}
	return d
}

// oneStoreEach returns a device with a history of one store, of 1 to the line's first word, in each of its lines.
func oneStoreEach(t *testing.T, lines int) *device.Device {
	t.Helper()
	d := newDevice(t, lines)
	for n := range lines {
		d.Thread(0).Store(uint64(64*n), 1)
	}
	return d
}

// sameHistories returns a device with a history of k different stores in each of its lines.
func sameHistories(t *testing.T, lines, k int) *device.Device {
	t.Helper()
	d := newDevice(t, lines)
	for n := range lines {
		for v := range k {
			d.Thread(0).Store(uint64(64*n), uint64(v+1))
		}
	}
	return d
}

func newImage(t *testing.T, p []byte) image.Image {
	t.Helper()
	i, e := image.New(p)
	if e != api.OK {
		t.Fatal("image.New")
	}
	return i
}

// firstBytes returns the first byte of each line of an image.
func firstBytes(i image.Image) []byte {
	var p []byte
	for off := 0; off < 64*i.Lines(); off += 64 {
		p = append(p, i.Bytes()[off])
	}
	return p
}
