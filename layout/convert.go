package layout

import "bedrock/api"

// Convert returns the words of the layout to in which each field has the values of the field with the same name in ws.
func Convert(from, to Layout, ws []uint64) ([]uint64, api.Errno) {
	if len(ws) != from.words {
		return nil, api.ErrArg
	}
	converted := make([]uint64, to.words)
	for _, target := range to.slots {
		source, err := from.Find(target.Field.Name)
		if err != api.OK {
			continue
		}
		if err := copyField(source, target, ws, converted); err != api.OK {
			return nil, err
		}
	}
	return converted, api.OK
}

// copyField copies the elements of a field from the words of one layout to those of another one.
func copyField(source, target Slot, ws, converted []uint64) api.Errno {
	if (source.Field.Type == Pointer) != (target.Field.Type == Pointer) {
		return api.ErrType
	}
	for i := range source.Field.Count {
		v := source.load(ws, i)
		if i >= target.Field.Count {
			if v != 0 {
				return api.ErrRange
			}
			continue
		}
		if !isSame(v, source, target) {
			return api.ErrRange
		}
		target.store(converted, i, v)
	}
	return api.OK
}

// isSame reports whether the bits v mean the same integer in both slots.
func isSame(v uint64, source, target Slot) bool {
	if source.Field.Type == target.Field.Type {
		return true
	}
	// The highest bit of a word makes an I64 negative, while unsigned types mean a large number by it.
	signed := source.Field.Type == I64 || target.Field.Type == I64
	if signed && v>>(wordBits-1) == 1 {
		return false
	}
	return v <= target.mask()
}
