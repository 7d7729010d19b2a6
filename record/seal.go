package record

import (
	"slices"

	"bedrock/api"
	"bedrock/crc"
)

// Seal returns the words, followed by their checksum.
func Seal(ws []uint64) []uint64 {
	return append(slices.Clone(ws), uint64(crc.Words(ws)))
}

// Open verifies the checksum at the end and returns the words before it.
func Open(ws []uint64) ([]uint64, api.Errno) {
	if len(ws) == 0 {
		return nil, api.ErrSum
	}
	last := len(ws) - 1
	if ws[last] != uint64(crc.Words(ws[:last])) {
		return nil, api.ErrSum
	}
	return slices.Clone(ws[:last]), api.OK
}
