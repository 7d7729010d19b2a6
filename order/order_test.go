package order_test

import (
	"bytes"
	"math"
	"slices"
	"testing"

	"bedrock/api"
	"bedrock/crashset"
	"bedrock/device"
	"bedrock/order"
	"bedrock/script"
)

// P7.1 to P7.4: every method agrees with the definition.
func TestGraph(t *testing.T) {
	for _, r := range runs() {
		g, m := newGraph(t, r.lines, r.events), newModel(r.lines, r.events)
		if g.Lines() != m.lines || g.Stores() != len(m.stores) {
			t.Fatalf("%d lines, %d stores, want %d, %d", g.Lines(), g.Stores(), m.lines, len(m.stores))
		}
		for i, want := range m.stores {
			if line, w := g.Of(i); line != int(want.Off/64) || w != want {
				t.Fatalf("Of(%d) = %d, %v, want %v", i, line, w, want)
			}
		}
		if want := m.listed(func(i int) bool { return m.mandatory[i] }); !slices.Equal(g.Mandatory(), want) {
			t.Fatalf("Mandatory = %v, want %v", g.Mandatory(), want)
		}
		cuts := m.cuts()
		checkBefore(t, g, cuts)
		checkClosed(t, g, m)
		checkCuts(t, g, cuts)
		for _, c := range cuts {
			if p, e := g.Image(c); e != api.OK || !bytes.Equal(p, m.image(c)) {
				t.Fatalf("Image(%v): %x, %d", c, p, e)
			}
		}
	}
}

// checkBefore compares Before with its meaning: a store is in every cut that contains another one.
func checkBefore(t *testing.T, g *order.Graph, cuts [][]int) {
	t.Helper()
	for i := -1; i <= g.Stores(); i++ {
		for j := -1; j <= g.Stores(); j++ {
			want := 0 <= i && i < g.Stores() && 0 <= j && j < g.Stores()
			for _, c := range cuts {
				want = want && (slices.Contains(c, i) || !slices.Contains(c, j))
			}
			if g.Before(i, j) != want {
				t.Fatalf("Before(%d, %d) = %t", i, j, !want)
			}
		}
	}
}

// checkClosed compares Closed and the error of Image for all sets of stores.
func checkClosed(t *testing.T, g *order.Graph, m *model) {
	t.Helper()
	for set := range 1 << len(m.stores) {
		l := m.listed(func(i int) bool { return set>>i&1 == 1 })
		want := m.isCut(set)
		if g.Closed(l) != want {
			t.Fatalf("Closed(%v) = %t", l, !want)
		}
		slices.Reverse(l)
		if g.Closed(l) != want {
			t.Fatalf("Closed(%v) = %t", l, !want)
		}
		if p, e := g.Image(l); want != (e == api.OK) || !want && (e != api.ErrArg || len(p) != 0) {
			t.Fatalf("Image(%v): %d, %d", l, len(p), e)
		}
	}
}

func checkCuts(t *testing.T, g *order.Graph, want [][]int) {
	t.Helper()
	for _, limit := range []int{len(want), len(want) + 1, math.MaxInt, len(want) - 1, 1, 0, -1, math.MinInt} {
		k := min(max(limit, 0), len(want))
		if got := collect(g, limit); !equalCuts(got, want[:k]) {
			t.Fatalf("Cuts(%d) = %v, want %v", limit, got, want[:k])
		}
	}
	if n, exact := g.Count(); n != uint64(len(want)) || !exact {
		t.Fatalf("Count = %d, %t, want %d", n, exact, len(want))
	}
	if first := collect(g, 1); !slices.Equal(first[0], g.Mandatory()) {
		t.Fatalf("the first cut is %v, not %v", first, g.Mandatory())
	}
}

// P7.5: the images of the cuts are the crash images of the device.
func TestGraphIsDevice(t *testing.T) {
	for _, r := range runs() {
		g := newGraph(t, r.lines, r.events)
		d, _ := device.New(r.lines)
		for _, e := range r.events {
			d, _, _ = script.Step(d, e)
		}
		ofCuts, ofDevice := map[string]bool{}, map[string]bool{}
		for c := range g.Cuts(math.MaxInt) {
			p, _ := g.Image(c)
			ofCuts[string(p)] = true
		}
		for i := range crashset.All(d, math.MaxInt) {
			ofDevice[string(i.Bytes())] = true
		}
		for p := range ofCuts {
			if !ofDevice[p] {
				t.Fatalf("the image %x of a cut is no crash image", p)
			}
		}
		for p := range ofDevice {
			if !ofCuts[p] {
				t.Fatalf("the crash image %x is that of no cut", p)
			}
		}
	}
}

// P7.6.
func TestFurtherEvents(t *testing.T) {
	for _, r := range runs() {
		whole := newGraph(t, r.lines, r.events)
		for k := range r.events {
			checkFurther(t, newGraph(t, r.lines, r.events[:k]), whole)
		}
	}
}

// checkFurther compares the graph of some events with that of these and further ones.
func checkFurther(t *testing.T, part, whole *order.Graph) {
	t.Helper()
	mandatory := whole.Mandatory()
	for _, i := range part.Mandatory() {
		if !slices.Contains(mandatory, i) {
			t.Fatalf("store %d is not mandatory any more", i)
		}
	}
	for i := range part.Stores() {
		line, w := part.Of(i)
		if line2, w2 := whole.Of(i); line2 != line || w2 != w {
			t.Fatalf("store %d changes", i)
		}
		for j := range part.Stores() {
			was, is := part.Before(i, j), whole.Before(i, j)
			if was && !is || !was && is && !slices.Contains(mandatory, i) {
				t.Fatalf("Before(%d, %d) changes to %t", i, j, is)
			}
		}
	}
}

// P7.2: Before is reflexive and transitive.
func TestBeforeIsAnOrder(t *testing.T) {
	for _, r := range runs() {
		g := newGraph(t, r.lines, r.events)
		for i := range g.Stores() {
			if !g.Before(i, i) {
				t.Fatalf("Before(%d, %d) is false", i, i)
			}
			for j := range g.Stores() {
				for k := range g.Stores() {
					if g.Before(i, j) && g.Before(j, k) && !g.Before(i, k) {
						t.Fatalf("%d is before %d, and that before %d", i, j, k)
					}
				}
			}
		}
	}
}

func TestMandatory(t *testing.T) {
	cases := []struct {
		text string
		want []int
	}{
		{"", nil},
		{"store 0 0 1\nfence 0", nil},
		{"store 0 0 1\nflush 0 0", nil},
		{"flush 0 0\nstore 0 0 1\nfence 0", nil},
		{"store 0 0 1\nflush 1 0\nfence 0", nil},
		{"store 0 0 1\nflush 1 0\nfence 1", []int{0}},
		{"store 0 0 1\nflush 0 63\nfence 0", []int{0}},
		{"store 0 0 1\nflush 0 64\nfence 0", nil},
		{"store 0 0 1\nflush 0 128\nfence 0", nil},
		{"store 0 56 1\nflush 0 1\nfence 0", []int{0}},
		// The last flush of a line counts, and a fence ends what was flushed before.
		{"store 0 0 1\nflush 0 0\nstore 0 8 2\nflush 0 0\nstore 0 0 3\nfence 0", []int{0, 1}},
		{"store 0 0 1\nflush 0 0\nfence 0\nstore 0 0 2\nfence 0", []int{0}},
		{"flush 0 0\nfence 0\nstore 0 0 2\nfence 0", nil},
		// A fence makes mandatory what several threads stored to several lines, but not what other threads flushed.
		{"store 0 0 1\nstore 1 64 2\nstore 2 8 3\nflush 2 0\nflush 2 64\nfence 2", []int{0, 1, 2}},
		{"store 0 0 1\nstore 1 64 2\nflush 0 0\nflush 1 64\nfence 1", []int{1}},
		// An earlier flush of one thread is not lost by a later one of another thread, and takes nothing back.
		{"store 0 0 1\nflush 0 0\nstore 1 8 2\nflush 1 0\nfence 1\nstore 1 0 4\nfence 0", []int{0, 1}},
		{"store 0 0 1\nflush 0 0\nstore 1 8 2\nflush 1 0\nfence 0", []int{0}},
		{"writeback 0 1\nstore 0 0 1", nil},
		{"store 0 0 1\nwriteback 0 0", nil},
		{"store 0 0 1\nwriteback 0 1", []int{0}},
		{"store 0 0 1\nwriteback 0 2", nil},
		{"store 0 0 1\nwriteback 1 1", nil},
		{"store 0 0 1\nwriteback 2 1\nwriteback 4095 0", nil},
		{"store 0 0 1\nstore 0 0 2\nstore 0 0 3\nwriteback 0 1\nwriteback 0 1", []int{0, 1}},
		{"store 0 0 1\nstore 0 0 2\nstore 0 0 3\nwriteback 0 2\nwriteback 0 2", []int{0, 1}},
		{"store 0 0 1\nstore 0 0 2\nwriteback 0 2147483647", nil},
		// What is written back before the fence is not counted again.
		{"store 0 0 1\nstore 0 0 2\nflush 0 0\nwriteback 0 1\nstore 0 0 3\nfence 0", []int{0, 1}},
		{"store 0 0 1\nflush 0 0\nstore 0 0 2\nwriteback 0 2\nfence 0", []int{0, 1}},
	}
	for _, c := range cases {
		g := newGraph(t, 2, parse(t, c.text))
		if got := g.Mandatory(); !slices.Equal(got, c.want) {
			t.Errorf("Mandatory of %q = %v, want %v", c.text, got, c.want)
		}
	}
}

// P7.1: which events are stores.
func TestStores(t *testing.T) {
	g := newGraph(t, 2, parse(t, `store 0 120 1
store 0 128 2
store 0 4 3
store 0 18446744073709551608 4
cas 7 120 0 5
cas 7 120 1 6
cas 7 120 6 6
cas 0 128 0 7
cas 0 1 0 8
cas 0 0 0 0
store 0 0 18446744073709551615
`))
	want := []device.Write{{Off: 120, Value: 1}, {Off: 120, Value: 6}, {Off: 120, Value: 6}, {Off: 0, Value: 0}, {Off: 0, Value: math.MaxUint64}}
	if g.Stores() != len(want) || g.Lines() != 2 {
		t.Fatalf("%d stores, %d lines", g.Stores(), g.Lines())
	}
	for i, w := range want {
		if line, got := g.Of(i); line != int(w.Off/64) || got != w {
			t.Errorf("Of(%d) = %d, %v, want %v", i, line, got, w)
		}
	}
	for _, i := range []int{-1, len(want), math.MinInt, math.MaxInt} {
		if line, w := g.Of(i); line != -1 || w != (device.Write{}) {
			t.Errorf("Of(%d) = %d, %v", i, line, w)
		}
		if g.Before(i, 0) || g.Before(0, i) || g.Before(i, i) || g.Closed([]int{i}) {
			t.Errorf("there is a store %d", i)
		}
		if p, e := g.Image([]int{i}); e != api.ErrArg || len(p) != 0 {
			t.Errorf("Image(%d): %d, %d", i, len(p), e)
		}
	}
}

func TestErrorsOfNew(t *testing.T) {
	fence, wrong := script.Event{Kind: script.Fence}, script.Event{Kind: script.Fence, Thread: 8}
	arm, crash := script.Event{Kind: script.Arm, N: -1}, script.Event{Kind: script.Crash, Choice: []byte{1}}
	full := slices.Repeat([]script.Event{fence}, api.MaxScript)
	cases := []struct {
		lines int
		l     []script.Event
		want  api.Errno
	}{
		{0, nil, api.ErrArg},
		{-1, nil, api.ErrArg},
		{math.MinInt, nil, api.ErrArg},
		{4097, nil, api.ErrArg},
		{math.MaxInt, nil, api.ErrArg},
		{1, full, api.OK},
		{1, append(full[:api.MaxScript:api.MaxScript], fence), api.ErrLimit},
		{0, append(full[:api.MaxScript:api.MaxScript], fence), api.ErrArg},
		{1, append(full[:api.MaxScript:api.MaxScript], wrong), api.ErrLimit},
		{1, append([]script.Event{arm}, full...), api.ErrLimit},
		{1, append(full[1:api.MaxScript:api.MaxScript], wrong), api.ErrArg},
		{1, append(full[1:api.MaxScript:api.MaxScript], crash), api.ErrKind},
		{0, []script.Event{crash}, api.ErrArg},
		{1, []script.Event{wrong}, api.ErrArg},
		{1, []script.Event{{}}, api.ErrArg},
		{1, []script.Event{{Kind: script.Crash + 1}}, api.ErrArg},
		{1, []script.Event{{Kind: script.Arm, N: -2}}, api.ErrArg},
		{1, []script.Event{{Kind: script.Arm, Thread: 1}}, api.ErrArg},
		{1, []script.Event{{Kind: script.Crash, Choice: make([]byte, 513)}}, api.ErrArg},
		{1, []script.Event{{Kind: script.WriteBack, Line: 4096}}, api.ErrArg},
		{1, []script.Event{{Kind: script.Store, Old: 1}}, api.ErrArg},
		{1, []script.Event{arm}, api.ErrKind},
		{1, []script.Event{{Kind: script.Arm}}, api.ErrKind},
		{1, []script.Event{crash}, api.ErrKind},
		{1, []script.Event{{Kind: script.Crash}}, api.ErrKind},
		{1, []script.Event{fence, arm, wrong}, api.ErrKind},
		{1, []script.Event{fence, wrong, arm}, api.ErrArg},
		{1, []script.Event{fence, crash, wrong}, api.ErrKind},
	}
	for k, c := range cases {
		g, e := order.New(c.lines, c.l)
		if e != c.want || (g == nil) != (c.want != api.OK) {
			t.Errorf("case %d: %v, %d, want %d", k, g, e, c.want)
		}
	}
}

// Events that have an error on the device, other than that of their form, have no effect on the others.
func TestEventsOutside(t *testing.T) {
	g := newGraph(t, 1, parse(t, "store 0 1 1\nstore 0 64 1\nflush 0 64\nstore 0 0 7\nflush 0 0\nfence 0\nstore 0 8 8"))
	if g.Stores() != 2 || !slices.Equal(g.Mandatory(), []int{0}) {
		t.Errorf("%d stores, Mandatory = %v", g.Stores(), g.Mandatory())
	}
}

func TestClosedBorders(t *testing.T) {
	g := newGraph(t, 2, parse(t, "store 0 0 7\nstore 0 64 1\nstore 0 8 2\nstore 0 64 3\nwriteback 0 1"))
	cases := []struct {
		set  []int
		want bool
	}{
		{nil, false},
		{[]int{0}, true},
		{[]int{1, 0}, true},
		{[]int{3, 2, 1, 0}, true},
		{[]int{0, 0}, false},
		{[]int{0, 1, 1}, false},
		{[]int{0, 2, 2}, false},
		{[]int{0, 1, 0}, false},
		{[]int{0, 3}, false},
		{[]int{1, 3}, false},
		{[]int{2}, false},
		{[]int{0, 4}, false},
		{[]int{0, -1}, false},
		{[]int{math.MinInt}, false},
		{[]int{0, 1, 2, 3, 3}, false},
		{[]int{0, 1, 2, 3, 4}, false},
	}
	for _, c := range cases {
		if got := g.Closed(c.set); got != c.want {
			t.Errorf("Closed(%v) = %t", c.set, got)
		}
		if p, e := g.Image(c.set); (e == api.OK) != c.want || e != api.OK && (e != api.ErrArg || len(p) != 0) {
			t.Errorf("Image(%v): %d, %d", c.set, len(p), e)
		}
	}
}

func TestWithoutStores(t *testing.T) {
	g := newGraph(t, 3, parse(t, "fence 0\nflush 0 0\nwriteback 1 0"))
	if g.Lines() != 3 || g.Stores() != 0 || len(g.Mandatory()) != 0 || !g.Closed(nil) || g.Closed([]int{0}) || g.Before(0, 0) {
		t.Error("a graph without stores")
	}
	if n, exact := g.Count(); n != 1 || !exact {
		t.Errorf("Count = %d, %t", n, exact)
	}
	if got := collect(g, 5); len(got) != 1 || len(got[0]) != 0 {
		t.Errorf("Cuts = %v", got)
	}
	if p, e := g.Image(nil); e != api.OK || !bytes.Equal(p, make([]byte, 192)) {
		t.Errorf("Image: %x, %d", p, e)
	}
}

func TestNil(t *testing.T) {
	var g *order.Graph
	if g.Lines() != 0 || g.Stores() != 0 || g.Before(0, 0) || len(g.Mandatory()) != 0 || g.Closed(nil) || g.Closed([]int{0}) {
		t.Error("a nil graph has stores")
	}
	if line, w := g.Of(0); line != -1 || w != (device.Write{}) {
		t.Errorf("Of = %d, %v", line, w)
	}
	if n, exact := g.Count(); n != 0 || exact {
		t.Errorf("Count = %d, %t", n, exact)
	}
	if got := collect(g, 3); len(got) != 0 {
		t.Errorf("Cuts = %v", got)
	}
	if p, e := g.Image(nil); e != api.ErrArg || len(p) != 0 {
		t.Errorf("Image: %d, %d", len(p), e)
	}
}

// P7.3: the number of cuts around 2^62 and beyond 2^64, where products wrap.
func TestCountBorders(t *testing.T) {
	cases := []struct {
		lines, stores int
		want          uint64
		exact         bool
	}{
		{61, 1, 1 << 61, true},
		{62, 1, 1 << 62, true},
		{63, 1, 1 << 62, false},
		{64, 1, 1 << 62, false},
		{65, 1, 1 << 62, false},
		{4096, 1, 1 << 62, false},
		{39, 2, 4052555153018976267, true}, // 3^39
		{40, 2, 1 << 62, false},
		{31, 3, 1 << 62, true}, // 4^31
		{32, 3, 1 << 62, false},
		{1, 20000, 20001, true},
		{4, 5000, 5001 * 5001 * 5001 * 5001, true},
		{10, 2000, 1 << 62, false},
	}
	for _, c := range cases {
		g := newGraph(t, 4096, storesEach(c.lines, c.stores))
		if n, exact := g.Count(); n != c.want || exact != c.exact {
			t.Errorf("Count of %d lines with %d stores = %d, %t, want %d, %t", c.lines, c.stores, n, exact, c.want, c.exact)
		}
	}
	// 3 * 2^61 is greater than 2^62 and below 2^64.
	g := newGraph(t, 63, append(storesEach(62, 1), script.Event{Kind: script.Store, Off: 8}))
	if n, exact := g.Count(); n != 1<<62 || exact {
		t.Errorf("Count of 3 * 2^61 cuts = %d, %t", n, exact)
	}
	// Mandatory stores do not count.
	g = newGraph(t, 64, append(storesEach(64, 1), parse(t, "writeback 0 1\nwriteback 63 1")...))
	if n, exact := g.Count(); n != 1<<62 || !exact {
		t.Errorf("Count with mandatory stores = %d, %t", n, exact)
	}
}

// P7.3: lines whose stores are all mandatory take no part in the order of the cuts; many lines and many stores are no obstacle.
func TestManyLines(t *testing.T) {
	l := storesEach(4096, 2)
	for n := range 4096 {
		if n != 7 && n != 4000 {
			l = append(l, script.Event{Kind: script.WriteBack, Line: n, N: 2})
		}
	}
	g := newGraph(t, 4096, l)
	var got [][]int
	for c := range g.Cuts(100) {
		got = append(got, slices.DeleteFunc(c, func(i int) bool { return i/2 != 7 && i/2 != 4000 }))
	}
	want := [][]int{nil, {8000}, {8000, 8001}, {14}, {14, 8000}, {14, 8000, 8001}, {14, 15}, {14, 15, 8000}, {14, 15, 8000, 8001}}
	if !equalCuts(got, want) {
		t.Errorf("Cuts = %v, want %v", got, want)
	}
	if len(g.Mandatory()) != 8188 {
		t.Errorf("%d mandatory stores", len(g.Mandatory()))
	}
	p, e := g.Image(g.Mandatory())
	if e != api.OK || len(p) != 4096*64 || p[0] != 2 || p[7*64] != 0 || p[4000*64] != 0 || p[4095*64] != 2 {
		t.Errorf("Image: %d, %d", len(p), e)
	}
}

// P7.3: a loop can be left, and its sequence used again, also within itself.
func TestCutsAgain(t *testing.T) {
	g := newGraph(t, 2, storesEach(2, 1))
	want := [][]int{nil, {1}, {0}, {0, 1}}
	cuts := g.Cuts(4)
	for range cuts {
		break
	}
	n := 0
	for c := range cuts {
		if !slices.Equal(c, want[n]) {
			t.Errorf("cut %d = %v", n, c)
		}
		n++
		if !equalCuts(slices.Collect(cuts), want) {
			t.Error("Cuts within Cuts")
		}
		if n == 3 {
			break
		}
	}
	if n != 3 {
		t.Errorf("%d cuts", n)
	}
}

// Results are new memory, and arguments are neither changed nor kept.
func TestNewMemory(t *testing.T) {
	l := storesEach(2, 2)
	events := slices.Clone(l)
	g := newGraph(t, 2, append(events, script.Event{Kind: script.WriteBack, N: 1}))
	if !slices.EqualFunc(events, l, func(a, b script.Event) bool { return a.Text() == b.Text() }) {
		t.Error("New changes the events")
	}
	clear(events)
	if _, w := g.Of(3); w != (device.Write{Off: 64, Value: 2}) {
		t.Errorf("New keeps the events: %v", w)
	}
	clear(g.Mandatory()[:1])
	g.Mandatory()[0] = 3
	if !slices.Equal(g.Mandatory(), []int{0}) {
		t.Error("Mandatory shares its result")
	}
	var kept [][]int
	for c := range g.Cuts(10) {
		kept = append(kept, slices.Clone(c))
		for k := range c {
			c[k] = -1
		}
		_ = append(c, -1, -1)
	}
	if !equalCuts(kept, collect(g, 10)) {
		t.Error("Cuts shares its lists")
	}
	set := []int{1, 0}
	p, _ := g.Image(set)
	g.Closed(set)
	if !slices.Equal(set, []int{1, 0}) {
		t.Error("Image or Closed changes the set")
	}
	p[0] = 0xff
	if q, _ := g.Image(set); q[0] != 2 {
		t.Error("Image shares its result")
	}
}

func TestExamples(t *testing.T) {
	g := newGraph(t, 1, parse(t, "store 0 0 7\nstore 0 8 1\nflush 0 0\nstore 0 0 9\nfence 0"))
	if !slices.Equal(g.Mandatory(), []int{0, 1}) || !equalCuts(collect(g, 5), [][]int{{0, 1}, {0, 1, 2}}) {
		t.Errorf("example 1: %v, %v", g.Mandatory(), collect(g, 5))
	}
	for first, set := range map[byte][]int{7: {0, 1}, 9: {0, 1, 2}} {
		if p, e := g.Image(set); e != api.OK || p[0] != first || p[8] != 1 {
			t.Errorf("example 1: %x, %d", p, e)
		}
	}
	g = newGraph(t, 2, parse(t, "store 0 0 1\nstore 0 64 2"))
	if got := collect(g, 5); !equalCuts(got, [][]int{nil, {1}, {0}, {0, 1}}) {
		t.Errorf("example 2: %v", got)
	}
}
