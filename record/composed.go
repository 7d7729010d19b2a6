package record

// The composed codecs encode into words of their own, so that to stays unchanged if a part cannot be represented.

// Both is a pair of values.
type Both[A, B any] struct {
	A A
	B B
}

// Pair is the codec of Both: the words of the first value, followed by those of the second one.
type Pair[A, B any] struct {
	First  Codec[A]
	Second Codec[B]
}

// sizes returns the numbers of words of the first part and of the pair, 0 and 0 if the codec is invalid.
func (c Pair[A, B]) sizes() (first, whole int) {
	first = sizeOf(c.First)
	second := sizeOf(c.Second)
	if first == 0 || second == 0 || first+second > MaxWords {
		return 0, 0
	}
	return first, first + second
}

// Words returns the number of words, 0 if the codec is invalid.
func (c Pair[A, B]) Words() int {
	_, whole := c.sizes()
	return whole
}

// Encode stores the words of v in to, which has exactly Words elements.
func (c Pair[A, B]) Encode(v Both[A, B], to []uint64) bool {
	first, whole := c.sizes()
	if !fills(to, whole) {
		return false
	}
	words := make([]uint64, whole)
	if !c.First.Encode(v.A, words[:first]) || !c.Second.Encode(v.B, words[first:]) {
		return false
	}
	copy(to, words)
	return true
}

// Decode returns the values of the words.
func (c Pair[A, B]) Decode(from []uint64) (Both[A, B], bool) {
	first, whole := c.sizes()
	if !fills(from, whole) {
		return Both[A, B]{}, false
	}
	a, ok := decode(c.First, from[:first])
	if !ok {
		return Both[A, B]{}, false
	}
	b, ok := decode(c.Second, from[first:])
	if !ok {
		return Both[A, B]{}, false
	}
	return Both[A, B]{A: a, B: b}, true
}

// Array is the codec of slices of at most N elements: their number, the words of the elements, zero words.
type Array[T any] struct {
	N  int
	Of Codec[T]
}

// sizes returns the numbers of words of an element and of the array, 0 and 0 if the codec is invalid.
func (c Array[T]) sizes() (element, whole int) {
	element = sizeOf(c.Of)
	// N is compared with a quotient because the product can overflow.
	if element == 0 || c.N < 0 || c.N > (MaxWords-1)/element {
		return 0, 0
	}
	return element, 1 + c.N*element
}

// Words returns the number of words, 0 if the codec is invalid.
func (c Array[T]) Words() int {
	_, whole := c.sizes()
	return whole
}

// Encode stores the words of v in to, which has exactly Words elements.
func (c Array[T]) Encode(v []T, to []uint64) bool {
	size, whole := c.sizes()
	if !fills(to, whole) || len(v) > c.N {
		return false
	}
	words := make([]uint64, whole)
	words[0] = uint64(len(v))
	rest := words[1:]
	for _, element := range v {
		// Without spare capacity a codec cannot append to its words: those behind the last element have to stay 0.
		if !c.Of.Encode(element, rest[:size:size]) {
			return false
		}
		rest = rest[size:]
	}
	copy(to, words)
	return true
}

// Decode returns the elements, in a slice of their number.
func (c Array[T]) Decode(from []uint64) ([]T, bool) {
	size, whole := c.sizes()
	if !fills(from, whole) || from[0] > uint64(c.N) {
		return nil, false
	}
	v := make([]T, from[0])
	rest := from[1:]
	for i := range v {
		element, ok := decode(c.Of, rest[:size])
		if !ok {
			return nil, false
		}
		v[i] = element
		rest = rest[size:]
	}
	if !areZero(rest) {
		return nil, false
	}
	return v, true
}

// Option is the codec of pointers that may be nil: 0 and zero words, or 1 and the words of the value.
type Option[T any] struct {
	Of Codec[T]
}

// Words returns the number of words, 0 if the codec is invalid.
func (c Option[T]) Words() int {
	size := sizeOf(c.Of)
	if size == 0 || size >= MaxWords {
		return 0
	}
	return 1 + size
}

// Encode stores the words of v in to, which has exactly Words elements.
func (c Option[T]) Encode(v *T, to []uint64) bool {
	whole := c.Words()
	if !fills(to, whole) {
		return false
	}
	words := make([]uint64, whole)
	if v != nil {
		words[0] = 1
		if !c.Of.Encode(*v, words[1:]) {
			return false
		}
	}
	copy(to, words)
	return true
}

// Decode returns a pointer to the value of the words, or nil.
func (c Option[T]) Decode(from []uint64) (*T, bool) {
	if !fills(from, c.Words()) || from[0] > 1 {
		return nil, false
	}
	if from[0] == 0 {
		return nil, areZero(from)
	}
	v, ok := decode(c.Of, from[1:])
	if !ok {
		return nil, false
	}
	return &v, true
}

func areZero(words []uint64) bool {
	for _, w := range words {
		if w != 0 {
			return false
		}
	}
	return true
}
