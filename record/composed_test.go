package record_test

import (
	"math"
	"slices"
	"testing"

	"bedrock/record"
)

// list is a codec of the caller for exactly n numbers, whose lowest one must not be above 9. It keeps what it gets, and returns values with false.
type list struct {
	n    int
	kept *[][]uint64
}

func (c list) Words() int {
	return c.n
}

func (c list) keep(ws []uint64) {
	if c.kept != nil {
		*c.kept = append(*c.kept, ws)
	}
}

func (c list) Encode(v []uint64, to []uint64) bool {
	if len(to) != c.n {
		panic("called with another number of words")
	}
	c.keep(to)
	n := copy(to, v)
	return n == len(v) && n == len(to) && slices.Min(v) <= 9
}

func (c list) Decode(from []uint64) ([]uint64, bool) {
	if len(from) != c.n {
		panic("called with another number of words")
	}
	c.keep(from)
	return from, slices.Min(from) <= 9
}

// changing is a codec of the caller that changes the words that it decodes.
type changing struct{}

func (changing) Words() int { return 2 }

func (changing) Encode(v uint64, to []uint64) bool {
	to[0], to[1] = v, ^v
	return true
}

func (changing) Decode(from []uint64) (uint64, bool) {
	v := from[0]
	ok := from[1] == ^v
	clear(from[:cap(from)])
	return v, ok
}

// appending is a codec of the caller that appends to its words.
type appending struct{ record.Uint }

func (appending) Encode(v uint64, to []uint64) bool {
	return len(append(append(to[:0], v), 77, 78)) == len(to)+2
}

// pointed is a codec of the caller that has no value for nil.
type pointed struct{ size int }

func (c *pointed) Words() int { return c.size }

func (c *pointed) Encode(v uint64, to []uint64) bool {
	to[0] = v
	return true
}

func (c *pointed) Decode(from []uint64) (uint64, bool) {
	return from[0], true
}

type both = record.Both[uint64, []uint64]

type pair = record.Pair[uint64, []uint64]

// P11.2: which codecs are valid, and how many words they have.
func TestWordsOfPairs(t *testing.T) {
	for _, c := range []struct{ first, second, want int }{
		{1, 1, 2}, {1, 2, 3}, {5, 7, 12}, {1, 4095, 4096}, {4095, 1, 4096}, {2048, 2048, 4096},
		{1, 4096, 0}, {4096, 1, 0}, {2, 4095, 0}, {4096, 4096, 0}, {2049, 2048, 0},
		{0, 1, 0}, {1, 0, 0}, {0, 0, 0}, {-1, 2, 0}, {2, -1, 0}, {-5, -5, 0}, {4097, 1, 0}, {1, 4097, 0},
		{4097, -1, 0}, {-1, 4097, 0}, {5000, -4000, 0}, {math.MinInt, math.MinInt, 0}, {math.MaxInt, math.MaxInt, 0}, {math.MaxInt, 2, 0}, {math.MinInt, 5, 0},
	} {
		p := record.Pair[[]uint64, []uint64]{First: list{n: c.first}, Second: list{n: c.second}}
		if p.Words() != c.want {
			t.Errorf("a pair of %d and %d words has %d, want %d", c.first, c.second, p.Words(), c.want)
		}
		if c.want == 0 {
			refusesAll(t, p, record.Both[[]uint64, []uint64]{A: []uint64{1}, B: []uint64{1}})
		}
	}
	refusesAll(t, pair{}, both{})
	refusesAll(t, pair{First: record.Uint{}}, both{})
	refusesAll(t, pair{Second: list{n: 1}}, both{B: []uint64{1}})
}

// P11.2.
func TestWordsOfArrays(t *testing.T) {
	for _, c := range []struct{ n, of, want int }{
		{0, 1, 1}, {0, 4096, 1}, {0, 7, 1}, {1, 1, 2}, {1, 4095, 4096}, {2, 2047, 4095}, {3, 5, 16}, {4095, 1, 4096}, {5, 819, 4096}, {819, 5, 4096}, {2047, 2, 4095},
		{1, 4096, 0}, {4096, 1, 0}, {2, 2048, 0}, {2048, 2, 0}, {820, 5, 0}, {5, 820, 0}, {4097, 1, 0},
		{-1, 1, 0}, {-1, 2, 0}, {-1, 4096, 0}, {-2, 3, 0}, {-1, 0, 0}, {-4096, 1, 0}, {math.MinInt, 1, 0}, {math.MinInt, 2, 0}, {math.MinInt, 4096, 0}, {math.MaxInt, 1, 0}, {math.MaxInt, 2, 0}, {math.MaxInt, 4096, 0},
		{1 << 62, 4, 0}, {1 << 63 / 4, 8, 0}, {1<<62 + 1, 4, 0}, {1 << 32, 1 << 12, 0}, {1 << 52, 1 << 12, 0}, {1<<52 + 1, 1 << 12, 0},
		{0, 0, 0}, {0, -1, 0}, {0, 4097, 0}, {0, math.MaxInt, 0}, {1, 0, 0}, {3, -1, 0}, {-3, -1, 0}, {1, 4097, 0}, {math.MinInt, math.MinInt, 0},
	} {
		a := record.Array[[]uint64]{N: c.n, Of: list{n: c.of}}
		if a.Words() != c.want {
			t.Errorf("an array of %d times %d words has %d, want %d", c.n, c.of, a.Words(), c.want)
		}
		if c.want == 0 {
			refusesAll(t, a, nil)
			refusesAll(t, a, [][]uint64{{1}})
		}
	}
	for _, n := range []int{-1, 0, 1, 5} {
		refusesAll(t, record.Array[bool]{N: n}, nil)
		refusesAll(t, record.Array[bool]{N: n}, []bool{true})
	}
}

// P11.2.
func TestWordsOfOptions(t *testing.T) {
	for _, c := range []struct{ of, want int }{
		{1, 2}, {2, 3}, {7, 8}, {4094, 4095}, {4095, 4096}, {4096, 0}, {4097, 0}, {0, 0}, {-1, 0}, {-2, 0}, {math.MaxInt, 0}, {math.MinInt, 0},
	} {
		o := record.Option[[]uint64]{Of: list{n: c.of}}
		if o.Words() != c.want {
			t.Errorf("an option of %d words has %d, want %d", c.of, o.Words(), c.want)
		}
		if c.want == 0 {
			refusesAll(t, o, nil)
			refusesAll(t, o, &[]uint64{1})
		}
	}
	refusesAll(t, record.Option[bool]{}, nil)
	refusesAll(t, record.Option[bool]{}, new(bool))
}

// P11.2: an invalid part makes the whole invalid, however deep it is.
func TestInvalidPartsWithin(t *testing.T) {
	deep := record.Option[[]record.Both[bool, *uint64]]{Of: record.Array[record.Both[bool, *uint64]]{N: 2, Of: record.Pair[bool, *uint64]{First: record.Bool{}, Second: record.Option[uint64]{}}}}
	refusesAll(t, deep, nil)
	refusesAll(t, deep, &[]record.Both[bool, *uint64]{})
	large := record.Array[[]uint64]{N: 2, Of: record.Array[uint64]{N: 2047, Of: record.Uint{}}}
	refusesAll(t, large, nil)
	large.N = 1
	if large.Words() != 2049 {
		t.Error(large.Words())
	}
}

// P1, P11.2: a nil pointer is no codec.
func TestNilPointersAsCodecs(t *testing.T) {
	var none *pointed
	refusesAll(t, record.Array[uint64]{N: 1, Of: none}, []uint64{1})
	refusesAll(t, record.Option[uint64]{Of: none}, new(uint64))
	refusesAll(t, record.Pair[uint64, uint64]{First: none, Second: record.Uint{}}, record.Both[uint64, uint64]{})
	refusesAll(t, record.Pair[uint64, uint64]{First: record.Uint{}, Second: none}, record.Both[uint64, uint64]{})
	refusesAll(t, record.Array[uint64]{N: 1, Of: (*record.Uint)(nil)}, []uint64{1})
	refusesAll(t, record.Option[[]uint64]{Of: (*record.Array[uint64])(nil)}, &[]uint64{1})
	encodes(t, record.Array[uint64]{N: 1, Of: &pointed{size: 1}}, []uint64{8}, 1, 8)
	encodes(t, record.Array[uint64]{N: 1, Of: &record.Uint{}}, []uint64{8}, 1, 8)
}

// P11.2.
func TestPairs(t *testing.T) {
	c := record.Pair[string, bool]{First: record.Name{}, Second: record.Bool{}}
	type value = record.Both[string, bool]
	encodes(t, c, value{}, 0, 0, 0, 0)
	encodes(t, c, value{"ab", true}, 2, 25185, 0, 1)
	encodes(t, c, value{"", true}, 0, 0, 0, 1)
	refusesSizes(t, c, value{"ab", true})
	refusesValue(t, c, value{"12345678901234567", true}, 4)
	refusesWords(t, c, 17, 0, 0, 1)
	refusesWords(t, c, 2, 25185, 0, 2)
	refusesWords(t, c, 2, 25185, 1, 1)
	refusesWords(t, c, 1, 25185, 0, 1)
	other := record.Pair[bool, string]{First: record.Bool{}, Second: record.Name{}}
	encodes(t, other, record.Both[bool, string]{A: true, B: "ab"}, 1, 2, 25185, 0)
	refusesValue(t, other, record.Both[bool, string]{A: true, B: "12345678901234567"}, 4)
	refusesWords(t, other, 2, 2, 25185, 0)
	refusesWords(t, other, 1, 18, 0, 0)
}

// P11.2.
func TestArrays(t *testing.T) {
	c := record.Array[string]{N: 3, Of: record.Name{}}
	encodes(t, c, []string{}, 0, 0, 0, 0, 0, 0, 0, 0, 0, 0)
	encodes(t, c, []string{""}, 1, 0, 0, 0, 0, 0, 0, 0, 0, 0)
	encodes(t, c, []string{"ab", ""}, 2, 2, 25185, 0, 0, 0, 0, 0, 0, 0)
	encodes(t, c, []string{"", "b", "a"}, 3, 0, 0, 0, 1, 98, 0, 1, 97, 0)
	refusesSizes(t, c, []string{"ab", "b"})
	refusesValue(t, c, []string{"", "", "", ""}, 10)
	refusesValue(t, c, make([]string, 1000), 10)
	for at := range 3 {
		v := make([]string, 3)
		v[at] = "12345678901234567"
		refusesValue(t, c, v, 10)
		ws := make([]uint64, 10)
		ws[0], ws[1+3*at] = 3, 17
		refusesWords(t, c, ws...)
	}
	for _, n := range []uint64{4, 5, 256, 1 << 32, 1<<32 + 1, top, top + 1, all} {
		refusesWords(t, c, n, 0, 0, 0, 0, 0, 0, 0, 0, 0)
	}
	// Every word behind the elements must be 0, even if it could be an element's.
	for n := range 3 {
		for at := 1 + 3*n; at < 10; at++ {
			for _, w := range []uint64{1, 2, top, all} {
				ws := make([]uint64, 10)
				ws[0], ws[at] = uint64(n), w
				refusesWords(t, c, ws...)
			}
		}
	}
}

// P11.2: an array without room for elements.
func TestEmptyArrays(t *testing.T) {
	c := record.Array[bool]{Of: record.Bool{}}
	encodes(t, c, []bool{}, 0)
	refusesSizes(t, c, nil)
	refusesValue(t, c, []bool{false}, 1)
	refusesWords(t, c, 1)
	refusesWords(t, c, all)
	for _, n := range []int{0, 1, 5} {
		a := record.Array[bool]{N: n, Of: record.Bool{}}
		to := filled(n + 1)
		if !a.Encode(nil, to) || !slices.Equal(to, make([]uint64, n+1)) {
			t.Error("nil is not an array without elements", to)
		}
	}
}

// P11.2: the largest array.
func TestLargeArray(t *testing.T) {
	c := record.Array[uint64]{N: 4095, Of: record.Uint{}}
	v := make([]uint64, 4095)
	for i := range v {
		v[i] = uint64(i)*3 + 1
	}
	encodes(t, c, v, append([]uint64{4095}, v...)...)
	refusesValue(t, c, make([]uint64, 4096), 4096)
	encodes(t, c, v[:4094], append(append([]uint64{4094}, v[:4094]...), 0)...)
	refusesWords(t, c, append([]uint64{4094}, v...)...)
}

// P11.2.
func TestOptions(t *testing.T) {
	c := record.Option[string]{Of: record.Name{}}
	value := func(s string) *string { return &s }
	encodes(t, c, nil, 0, 0, 0, 0)
	encodes(t, c, value(""), 1, 0, 0, 0)
	encodes(t, c, value("ab"), 1, 2, 25185, 0)
	refusesSizes(t, c, value("ab"))
	refusesSizes(t, c, nil)
	refusesValue(t, c, value("12345678901234567"), 4)
	refusesWords(t, c, 1, 17, 0, 0)
	refusesWords(t, c, 1, 1, 25185, 0)
	for _, w := range []uint64{2, 3, 256, 1 << 32, 1<<32 + 1, top, top + 1, all} {
		refusesWords(t, c, w, 0, 0, 0)
		refusesWords(t, c, w, 2, 25185, 0)
	}
	for at := 1; at < 4; at++ {
		for _, w := range []uint64{1, 2, top, all} {
			ws := make([]uint64, 4)
			ws[at] = w
			refusesWords(t, c, ws...)
		}
	}
}

// P11.2: words that were there before are overwritten also where the value has none.
func TestComposedOverOtherWords(t *testing.T) {
	to := []uint64{1, 7, 7, 7}
	if !(record.Option[string]{Of: record.Name{}}).Encode(nil, to) || !slices.Equal(to, make([]uint64, 4)) {
		t.Error("Option", to)
	}
	to = []uint64{3, 7, 8, 9}
	if !(record.Array[uint64]{N: 3, Of: record.Uint{}}).Encode([]uint64{5}, to) || !slices.Equal(to, []uint64{1, 5, 0, 0}) {
		t.Error("Array", to)
	}
}

// P11.2: the words can be part of the value.
func TestEncodeIntoTheValue(t *testing.T) {
	ws := []uint64{5, 6, 7, 8}
	if !(record.Array[uint64]{N: 3, Of: record.Uint{}}).Encode(ws[:3], ws) || !slices.Equal(ws, []uint64{3, 5, 6, 7}) {
		t.Error(ws)
	}
	p := record.Pair[[]uint64, uint64]{First: record.Array[uint64]{N: 2, Of: record.Uint{}}, Second: record.Uint{}}
	ws = []uint64{5, 6, 7, 8}
	if !p.Encode(record.Both[[]uint64, uint64]{A: ws[1:3], B: 9}, ws) || !slices.Equal(ws, []uint64{2, 6, 7, 9}) {
		t.Error(ws)
	}
}

// P11.2: codecs of the caller as parts, which write a part of a value that they refuse, and return a value with false.
func TestCodecsOfTheCaller(t *testing.T) {
	c := pair{First: record.Uint{}, Second: list{n: 2}}
	encodes(t, c, both{5, []uint64{9, all}}, 5, 9, all)
	refusesValue(t, c, both{5, []uint64{1}}, 3)
	refusesValue(t, c, both{5, []uint64{1, 2, 3}}, 3)
	refusesValue(t, c, both{5, []uint64{10, 11}}, 3)
	refusesWords(t, c, 5, 10, 11)
	swapped := record.Pair[[]uint64, uint64]{First: list{n: 2}, Second: record.Uint{}}
	encodes(t, swapped, record.Both[[]uint64, uint64]{A: []uint64{9, all}, B: 5}, 9, all, 5)
	refusesValue(t, swapped, record.Both[[]uint64, uint64]{A: []uint64{10, 11}, B: 5}, 3)
	refusesWords(t, swapped, 10, 11, 5)
	a := record.Array[[]uint64]{N: 3, Of: list{n: 2}}
	encodes(t, a, [][]uint64{{1, 2}, {3, all}}, 2, 1, 2, 3, all, 0, 0)
	refusesValue(t, a, [][]uint64{{1, 2}, {10, all}}, 7)
	refusesWords(t, a, 2, 1, 2, 10, all, 0, 0)
	refusesWords(t, a, 1, 1, 2, 3, 4, 0, 0)
	o := record.Option[[]uint64]{Of: list{n: 2}}
	encodes(t, o, &[]uint64{1, 2}, 1, 1, 2)
	encodes(t, o, nil, 0, 0, 0)
	refusesValue(t, o, &[]uint64{10, 11}, 3)
	refusesWords(t, o, 1, 10, 11)
}

// The rule 'Memory': neither the value nor the words are shared with what a part keeps or changes.
func TestPartsThatKeepWords(t *testing.T) {
	var kept [][]uint64
	part := list{n: 2, kept: &kept}
	c := record.Array[record.Both[[]uint64, *[]uint64]]{N: 2, Of: record.Pair[[]uint64, *[]uint64]{First: part, Second: record.Option[[]uint64]{Of: part}}}
	v := []record.Both[[]uint64, *[]uint64]{{A: []uint64{1, 2}, B: &[]uint64{3, 4}}, {A: []uint64{5, 6}}}
	want := []uint64{2, 1, 2, 1, 3, 4, 5, 6, 0, 0, 0}
	to := make([]uint64, len(want))
	if !c.Encode(v, to) || !slices.Equal(to, want) {
		t.Fatal(to)
	}
	spoil(kept)
	if !slices.Equal(to, want) {
		t.Fatal("a part can change the words later", to)
	}
	kept = nil
	got, ok := c.Decode(to)
	if !ok {
		t.Fatal("Decode")
	}
	spoil(kept)
	if !slices.Equal(to, want) {
		t.Fatal("a part can change the argument later", to)
	}
	for i, b := range got {
		if b.B != nil {
			_ = append(*b.B, 99)
		}
		_ = append(b.A, 99)
		if !slices.Equal(to, want) {
			t.Fatal("the value", i, "shares memory with the argument")
		}
	}
}

// spoil overwrites all words that a codec was given.
func spoil(kept [][]uint64) {
	for _, ws := range kept {
		clear(ws[:cap(ws)])
	}
}

// The rule 'Memory': a part that changes the words that it decodes changes no argument, and no other part.
func TestPartsThatChangeWords(t *testing.T) {
	c := record.Array[uint64]{N: 3, Of: changing{}}
	encodes(t, c, []uint64{5, 6, 7}, 3, 5, all-5, 6, all-6, 7, all-7)
	encodes(t, c, []uint64{5, 6}, 2, 5, all-5, 6, all-6, 0, 0)
	encodes(t, record.Option[uint64]{Of: changing{}}, new(uint64), 1, 0, all)
	encodes(t, record.Pair[uint64, uint64]{First: changing{}, Second: changing{}}, record.Both[uint64, uint64]{A: 1, B: 2}, 1, all-1, 2, all-2)
	refusesWords(t, c, 2, 5, all-5, 6, all-6, 1, 0)
}

// P11.2: a part that appends to its words changes no others.
func TestPartsThatAppendToWords(t *testing.T) {
	encodes(t, record.Array[uint64]{N: 3, Of: appending{}}, []uint64{5, 6}, 2, 5, 6, 0)
	encodes(t, record.Array[uint64]{N: 3, Of: appending{}}, []uint64{5}, 1, 5, 0, 0)
	encodes(t, record.Pair[uint64, uint64]{First: appending{}, Second: appending{}}, record.Both[uint64, uint64]{A: 5, B: 6}, 5, 6)
	encodes(t, record.Option[uint64]{Of: appending{}}, new(uint64), 1, 0)
}

// The rule 'Memory': two results share nothing.
func TestResultsAreNew(t *testing.T) {
	c := record.Option[[]uint64]{Of: record.Array[uint64]{N: 2, Of: record.Uint{}}}
	from := []uint64{1, 2, 8, 9}
	v, _ := c.Decode(from)
	w, _ := c.Decode(from)
	(*v)[0] = 0
	*v = nil
	if !slices.Equal(*w, []uint64{8, 9}) || !slices.Equal(from, []uint64{1, 2, 8, 9}) {
		t.Error(*w, from)
	}
}

// account is a value of several parts.
type account struct {
	name    string
	open    bool
	balance int64
	moves   []int64
	last    *uint64
}

// accounts is a codec of the caller over the composed codecs.
type accounts struct{}

type tail = record.Both[[]int64, *uint64]

type rest = record.Both[int64, tail]

type head = record.Both[string, bool]

type parts = record.Both[head, rest]

func (accounts) parts() record.Codec[parts] {
	tails := record.Pair[[]int64, *uint64]{First: record.Array[int64]{N: 2, Of: record.Int{}}, Second: record.Option[uint64]{Of: record.Uint{}}}
	return record.Pair[head, rest]{
		First:  record.Pair[string, bool]{First: record.Name{}, Second: record.Bool{}},
		Second: record.Pair[int64, tail]{First: record.Int{}, Second: tails},
	}
}

func (c accounts) Words() int { return c.parts().Words() }

func (c accounts) Encode(v account, to []uint64) bool {
	return c.parts().Encode(parts{A: head{v.name, v.open}, B: rest{v.balance, tail{v.moves, v.last}}}, to)
}

func (c accounts) Decode(from []uint64) (account, bool) {
	p, ok := c.parts().Decode(from)
	return account{p.A.A, p.A.B, p.B.A, p.B.B.A, p.B.B.B}, ok
}

func (s *sequence) account() account {
	a := account{name: s.name(), open: s.below(2) == 1, balance: int64(s.number()), moves: make([]int64, s.below(3))}
	for i := range a.moves {
		a.moves[i] = int64(s.number())
	}
	if s.below(2) == 1 {
		last := s.number()
		a.last = &last
	}
	return a
}

// words returns the words of an account as the chapter describes them.
func (a account) words() []uint64 {
	ws := append(nameWords(a.name), 0, uint64(a.balance), uint64(len(a.moves)), 0, 0, 0, 0)
	if a.open {
		ws[3] = 1
	}
	for i, m := range a.moves {
		ws[6+i] = uint64(m)
	}
	if a.last != nil {
		ws[8], ws[9] = 1, *a.last
	}
	return ws
}

// P11.2 and P11.3: composed values.
func TestComposedValues(t *testing.T) {
	s := sequence(11)
	for range 3000 {
		a := s.account()
		encodes(t, accounts{}, a, a.words()...)
	}
	c := record.Array[account]{N: 5, Of: accounts{}}
	for range 300 {
		v := make([]account, s.below(6))
		want := make([]uint64, 51)
		want[0] = uint64(len(v))
		for i := range v {
			v[i] = s.account()
			copy(want[1+10*i:], v[i].words())
		}
		encodes(t, c, v, want...)
	}
}

// P11.3: other words than those of a value are no other representation of it.
func TestChangedWordsAreAnotherValue(t *testing.T) {
	s := sequence(13)
	c := record.Array[account]{N: 2, Of: accounts{}}
	found := 0
	for range 20000 {
		v := []account{s.account(), s.account()}[:s.below(3)]
		from := make([]uint64, 21)
		if !c.Encode(v, from) {
			t.Fatal(v)
		}
		at := s.below(len(from))
		if s.below(2) == 0 {
			from[at] ^= 1 << s.below(64)
		} else {
			from[at] = s.number()
		}
		if w, ok := c.Decode(from); ok {
			found++
			encodes(t, c, w, from...)
		} else {
			refusesWords(t, c, from...)
		}
	}
	if found < 1000 || found > 19000 {
		t.Error(found, "of 20000 are values")
	}
}
