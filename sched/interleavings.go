package sched

import (
	"iter"
	"math/bits"
	"slices"
)

// most is the greatest number of interleavings that Count returns.
const most = 1 << 62

// Interleavings yields the interleavings of sizes[i] steps of each machine i, in lexicographic order, at most limit of them.
func Interleavings(sizes []int, limit int) iter.Seq[[]int] {
	// The caller may change its slice before it ranges.
	sizes = slices.Clone(sizes)
	return func(yield func([]int) bool) {
		if limit < 1 {
			return
		}
		s := smallest(sizes)
		for range limit {
			if !yield(slices.Clone(s)) || !next(s) {
				return
			}
		}
	}
}

// smallest returns the first interleaving in lexicographic order.
func smallest(sizes []int) []int {
	var s []int
	for i, size := range sizes {
		for range size {
			s = append(s, i)
		}
	}
	return s
}

// next changes an interleaving into the one that follows, if there is one.
func next(s []int) bool {
	// What follows the place at is descending and thus the last order of these steps; the place itself must grow, by as little as possible.
	at := len(s) - 2
	for at >= 0 && s[at] >= s[at+1] {
		at--
	}
	if at < 0 {
		return false
	}
	greater := len(s) - 1
	for s[greater] <= s[at] {
		greater--
	}
	s[at], s[greater] = s[greater], s[at]
	slices.Reverse(s[at+1:])
	return true
}

// Count returns the number of interleavings, and false if it is above 2^62 (then 2^62).
func Count(sizes []int) (uint64, bool) {
	n, total, fits := uint64(1), uint64(0), true
	for _, size := range sizes {
		added := uint64(max(size, 0))
		n, fits = timesChoices(n, total, added)
		if !fits {
			return most, false
		}
		total += added
	}
	return n, true
}

// timesChoices returns n times the number of interleavings of a and b steps, and whether that is at most 2^62. It ends soon also for great numbers: the product at least doubles with every factor.
func timesChoices(n, a, b uint64) (uint64, bool) {
	few, many := min(a, b), max(a, b)
	for i := uint64(1); i <= few; i++ {
		// After this n is the result for i instead of few steps. It never shrinks, so that a product above 2^62 is final.
		high, low := bits.Mul64(n, many+i)
		if high >= i {
			return 0, false
		}
		n, _ = bits.Div64(high, low, i)
		if n > most {
			return 0, false
		}
	}
	return n, true
}
