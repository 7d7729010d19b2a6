package record

import (
	"math"

	"bedrock/api"
	"bedrock/mem"
)

// Read returns the value of the record at an offset of the memory.
func Read[T any](m mem.Memory, off uint64, c Codec[T]) (T, api.Errno) {
	var none T
	size := sizeOf(c)
	if m == nil || size == 0 || off%api.WordSize != 0 {
		return none, api.ErrArg
	}
	if !contains(m, off, size) {
		return none, api.ErrRange
	}
	if err := m.Err(); err != api.OK {
		return none, err
	}
	words := make([]uint64, size)
	for i := range words {
		words[i] = m.Load(off + uint64(i)*api.WordSize)
	}
	if err := m.Err(); err != api.OK {
		return none, err
	}
	v, ok := decode(c, words)
	if !ok {
		return none, api.ErrForm
	}
	return v, api.OK
}

// contains reports whether all words of a record are in the memory.
func contains(m mem.Memory, off uint64, size int) bool {
	end := m.Size()
	return off <= end && uint64(size) <= (end-off)/api.WordSize
}

// Plan returns the writes that store a record at an offset.
func Plan[T any](off uint64, c Codec[T], v T) ([]mem.Write, api.Errno) {
	size := sizeOf(c)
	if size == 0 || off%api.WordSize != 0 || off > math.MaxUint64-uint64(size)*api.WordSize {
		return nil, api.ErrArg
	}
	words := make([]uint64, size)
	if !c.Encode(v, words) {
		return nil, api.ErrArg
	}
	writes := make([]mem.Write, size)
	for i, w := range words {
		writes[i] = mem.Write{Off: off + uint64(i)*api.WordSize, Value: w}
	}
	return writes, api.OK
}
