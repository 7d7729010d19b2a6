package sched_test

import (
	"math"
	"math/big"
	"slices"
	"testing"

	"bedrock/sched"
)

// interleavings returns all interleavings by the definition: each step that can be the first one, followed by those of the rest.
func interleavings(sizes []int) [][]int {
	var all [][]int
	for i, size := range sizes {
		if size <= 0 {
			continue
		}
		rest := slices.Clone(sizes)
		rest[i]--
		for _, s := range interleavings(rest) {
			all = append(all, append([]int{i}, s...))
		}
	}
	if all == nil {
		return [][]int{nil}
	}
	return all
}

// collect returns the first limit interleavings.
func collect(sizes []int, limit int) [][]int {
	var all [][]int
	for s := range sched.Interleavings(sizes, limit) {
		all = append(all, s)
	}
	return all
}

func equalLists(a, b [][]int) bool {
	return slices.EqualFunc(a, b, slices.Equal)
}

// multinomial returns the number of interleavings.
func multinomial(sizes []int) *big.Int {
	n, total := big.NewInt(1), int64(0)
	for _, size := range sizes {
		if size > 0 {
			total += int64(size)
			n.Mul(n, new(big.Int).Binomial(total, int64(size)))
		}
	}
	return n
}

// P8.3.
func TestInterleavings(t *testing.T) {
	cases := [][]int{nil, {0}, {-1}, {0, 0, -3}, {1}, {6}, {0, 3}, {3, 0}, {1, 1}, {2, 1}, {1, 2}, {-1, 2, 0, 1}, {3, 3}, {2, 2, 2}, {1, 1, 1, 1, 1}, {4, 1, 2}, {1, 5}, {5, 1}, {2, 0, 2, -9, 2}, {1, 2, 3}, {math.MinInt, 1}}
	s := sequence(7)
	for range 60 {
		cases = append(cases, s.list(-1, 2))
	}
	for _, sizes := range cases {
		if multinomial(sizes).Cmp(big.NewInt(3000)) > 0 {
			continue
		}
		want := interleavings(sizes)
		for _, limit := range []int{math.MaxInt, len(want) + 1, len(want), len(want) - 1, len(want) / 2, 1, 0, -1, math.MinInt} {
			k := min(max(limit, 0), len(want))
			if got := collect(sizes, limit); !equalLists(got, want[:k]) {
				t.Fatalf("Interleavings(%v, %d) = %v, want %v", sizes, limit, got, want[:k])
			}
		}
		if n, exact := sched.Count(sizes); n != uint64(len(want)) || !exact {
			t.Errorf("Count(%v) = %d, %t, want %d", sizes, n, exact, len(want))
		}
	}
}

func TestExampleOfInterleavings(t *testing.T) {
	if got := collect([]int{2, 1}, 10); !equalLists(got, [][]int{{0, 0, 1}, {0, 1, 0}, {1, 0, 0}}) {
		t.Errorf("Interleavings = %v", got)
	}
	if n, exact := sched.Count([]int{2, 1}); n != 3 || !exact {
		t.Errorf("Count = %d, %t", n, exact)
	}
}

// A limit of 0 asks for nothing, however long the interleavings are; with a small limit long ones are no obstacle.
func TestLongInterleavings(t *testing.T) {
	if got := collect([]int{math.MaxInt, math.MaxInt, math.MaxInt}, 0); len(got) != 0 {
		t.Errorf("Interleavings = %v", got)
	}
	const n = 100000
	zeros, ones := slices.Repeat([]int{0}, n), slices.Repeat([]int{1}, n)
	want := [][]int{
		slices.Concat(zeros, ones),
		slices.Concat(zeros[1:], ones[:1], zeros[:1], ones[1:]),
		slices.Concat(zeros[1:], ones[:2], zeros[:1], ones[2:]),
	}
	if !equalLists(collect([]int{n, n}, 3), want) {
		t.Error("the first interleavings of two long lists")
	}
}

// Each interleaving is new memory, the sizes are neither changed nor kept, and the loop can be left and begun again.
func TestInterleavingsAgain(t *testing.T) {
	sizes := []int{1, 1, 1}
	all := sched.Interleavings(sizes, 10)
	if !slices.Equal(sizes, []int{1, 1, 1}) {
		t.Error("the sizes are changed")
	}
	sizes[0] = 5
	want := interleavings([]int{1, 1, 1})
	for range all {
		break
	}
	n := 0
	for s := range all {
		if !slices.Equal(s, want[n]) {
			t.Errorf("interleaving %d = %v", n, s)
		}
		n++
		for k := range s {
			s[k] = -1
		}
		_ = append(s, -1, -1)
		if got := slices.Collect(all); !equalLists(got, want) {
			t.Errorf("the loop within the loop: %v", got)
		}
		if n == 4 {
			break
		}
	}
	if n != 4 {
		t.Errorf("%d interleavings", n)
	}
}

// P8.3: the number of interleavings around 2^62 and beyond 2^64, where products wrap.
func TestCountBorders(t *testing.T) {
	most := new(big.Int).Lsh(big.NewInt(1), 62)
	cases := [][]int{
		{math.MaxInt}, {math.MaxInt, 0, -5}, {math.MinInt, math.MinInt},
		{1<<62 - 1, 1}, {1, 1<<62 - 1}, {1 << 62, 1}, {1, 1 << 62}, {1<<62 - 2, 1, 1}, {1, 1<<62 - 2}, {1, 1, 1<<62 - 2},
		{1<<31 - 1, 2}, {1 << 31, 2}, {3037000498, 2}, {3037000499, 2}, {3037000500, 2}, {2, 3037000499}, {3037000498, 1, 1},
		{3025450, 3}, {3025451, 3}, {3025452, 3}, {3, 3025449},
		{31, 31}, {32, 32}, {33, 33}, {34, 34}, {33, 32}, {32, 33}, {34, 32}, {64, 20}, {20, 64}, {1000, 7}, {7, 1000},
		{5, 5, 5, 5, 5, 5}, {10, 10, 10, 10}, {11, 11, 11, 11}, {12, 12, 12}, {16, 16, 16}, {2, 2, 2, 2, 2, 2, 2, 2, 2},
		slices.Repeat([]int{1}, 20), slices.Repeat([]int{1}, 21), slices.Repeat([]int{1}, 70), slices.Repeat([]int{2}, 10), slices.Repeat([]int{2}, 12),
		slices.Repeat([]int{0, -1}, 100000), append(make([]int, 100000), 2, 3),
	}
	s := sequence(2)
	for range 2000 {
		sizes := s.list(-1, 1+s.below(20))
		cases = append(cases, sizes, append(sizes, 1<<s.below(25), 1+s.below(4)))
	}
	for _, sizes := range cases {
		want, fits := multinomial(sizes), true
		if want.Cmp(most) > 0 {
			want, fits = most, false
		}
		if n, exact := sched.Count(sizes); n != want.Uint64() || exact != fits {
			t.Errorf("Count(%v) = %d, %t, want %d, %t", sizes, n, exact, want, fits)
		}
	}
}

// These numbers are far too great to be computed.
func TestCountOfGreatSizes(t *testing.T) {
	for _, sizes := range [][]int{
		{math.MaxInt, 1}, {1, math.MaxInt}, {math.MaxInt, math.MaxInt}, {math.MaxInt, math.MaxInt, 2}, {math.MaxInt, math.MaxInt, math.MaxInt}, {0, math.MaxInt, 5, math.MaxInt},
		{1 << 62, 1 << 62, 1 << 62, 1 << 62}, {1<<31 - 1, 1<<31 - 1}, {1<<31 - 1, 1<<31 - 1, 1<<31 - 1}, slices.Repeat([]int{math.MaxInt}, 1000),
	} {
		if n, exact := sched.Count(sizes); n != 1<<62 || exact {
			t.Errorf("Count(%v) = %d, %t", sizes, n, exact)
		}
	}
	sizes := []int{2, -1, 1}
	sched.Count(sizes)
	if !slices.Equal(sizes, []int{2, -1, 1}) {
		t.Error("Count changes the sizes")
	}
}
