package sched_test

import (
	"math"
	"slices"
	"testing"

	"bedrock/sched"
)

// probe is a machine that ends with its step number end, and counts all its steps.
type probe struct {
	end, steps int
}

func (p *probe) Step() bool {
	p.steps++
	return p.steps >= p.end
}

// probes returns machines that end after so many steps; nil for a negative number.
func probes(ends []int) []sched.Machine {
	ms := make([]sched.Machine, len(ends))
	for i, end := range ends {
		if end >= 0 {
			ms[i] = &probe{end: end}
		}
	}
	return ms
}

// model keeps a log as the chapter describes it, of machines that end after so many steps.
type model struct {
	ends  []int
	steps []int
}

// has counts the steps of a machine.
func (m *model) has(i int) int {
	n := 0
	for _, s := range m.steps {
		if s == i {
			n++
		}
	}
	return n
}

// isOver reports whether a machine has ended or is nil. A machine of no steps ends with its first one.
func (m *model) isOver(i int) bool {
	return m.ends[i] < 0 || m.has(i) >= max(m.ends[i], 1)
}

func (m *model) step(i int) {
	if !m.isOver(i) {
		m.steps = append(m.steps, i)
	}
}

func (m *model) allOver() bool {
	for i := range m.ends {
		if !m.isOver(i) {
			return false
		}
	}
	return true
}

// ended returns the index of the last step of each machine that has ended.
func (m *model) ended() []int {
	all := make([]int, len(m.ends))
	for i, end := range m.ends {
		all[i] = -1
		if end >= 0 && m.isOver(i) {
			all[i] = len(m.steps) - 1 - slices.Index(reversed(m.steps), i)
		}
	}
	return all
}

func reversed(l []int) []int {
	r := slices.Clone(l)
	slices.Reverse(r)
	return r
}

// check compares a log, and that each machine was stepped as often as the log says.
func (m *model) check(t *testing.T, l sched.Log, ms []sched.Machine) {
	t.Helper()
	if !slices.Equal(l.Steps, m.steps) || !slices.Equal(l.Ended, m.ended()) {
		t.Fatalf("machines of %v steps: %v, want %v, %v", m.ends, l, m.steps, m.ended())
	}
	for i := range ms {
		if p, is := ms[i].(*probe); is && p.steps != m.has(i) {
			t.Fatalf("machine %d of %v executed %d steps, the log has %v", i, m.ends, p.steps, l.Steps)
		}
	}
}

// sequence yields a fixed irregular sequence of numbers.
type sequence uint64

func (s *sequence) next() uint64 {
	x := *s
	x ^= x << 13
	x ^= x >> 7
	x ^= x << 17
	*s = x
	return uint64(x) * 0x2545f4914f6cdd1d
}

func (s *sequence) below(n int) int {
	return int(s.next() >> 33 % uint64(n))
}

// list returns up to 7 numbers from low to high.
func (s *sequence) list(low, high int) []int {
	l := make([]int, s.below(8))
	for k := range l {
		l[k] = low + s.below(high-low+1)
	}
	return l
}

// P8.1.
func TestRun(t *testing.T) {
	s := sequence(3)
	for range 3000 {
		ends := s.list(-1, 4)
		picks := slices.Concat(s.list(-2, 20), s.list(0, 6), s.list(0, 6))
		want := model{ends: ends}
		for _, p := range picks {
			if p >= 0 && len(ends) > 0 {
				want.step(p % len(ends))
			}
		}
		ms := probes(ends)
		want.check(t, sched.Run(ms, picks), ms)
	}
}

func TestRunBorders(t *testing.T) {
	cases := []struct {
		ends, picks, steps, ended []int
	}{
		{nil, nil, nil, nil},
		{nil, []int{0, 1, -1}, nil, nil},
		{[]int{2}, nil, nil, []int{-1}},
		{[]int{2}, []int{-1, math.MinInt, -2}, nil, []int{-1}},
		{[]int{2}, []int{math.MaxInt, 7, 0, 0}, []int{0, 0}, []int{1}},
		{[]int{-1}, []int{0, 1}, nil, []int{-1}},
		{[]int{-1, 1, -1}, []int{0, 1, 2, 3, 4}, []int{1}, []int{-1, 0, -1}},
		{[]int{0, 5}, []int{0, 0, 1, 0}, []int{0, 1}, []int{0, -1}},
		{[]int{1, 1, 1}, []int{math.MaxInt, math.MaxInt - 1}, []int{math.MaxInt % 3, (math.MaxInt - 1) % 3}, nil},
		{[]int{1, 2}, []int{1, 0, 3, 1}, []int{1, 0, 1}, []int{1, 2}}, // the chapter's example 1
	}
	for k, c := range cases {
		ms := probes(c.ends)
		l := sched.Run(ms, c.picks)
		if c.ended == nil {
			c.ended = l.Ended
		}
		if !slices.Equal(l.Steps, c.steps) || !slices.Equal(l.Ended, c.ended) || len(l.Ended) != len(c.ends) {
			t.Errorf("case %d: %v, want %v, %v", k, l, c.steps, c.ended)
		}
	}
}

// What a machine did before the call does not count: if it has ended already, it ends again with its first step.
func TestEndedBefore(t *testing.T) {
	old := func() []sched.Machine {
		a, b := &probe{end: 1}, &probe{end: 3}
		a.Step()
		b.Step()
		return []sched.Machine{a, b}
	}
	want := model{ends: []int{1, 2}, steps: []int{1, 0, 1}}
	l := sched.Run(old(), []int{1, 0, 0, 1, 1})
	if !slices.Equal(l.Steps, want.steps) || !slices.Equal(l.Ended, want.ended()) {
		t.Errorf("Run: %v", l)
	}
	l, ended := sched.RoundRobin(old(), 9)
	if !slices.Equal(l.Steps, []int{0, 1, 1}) || !slices.Equal(l.Ended, []int{0, 2}) || !ended {
		t.Errorf("RoundRobin: %v, %t", l, ended)
	}
	ms := old()
	if !sched.Finish(ms[0], 1) || ms[0].(*probe).steps != 2 {
		t.Error("Finish")
	}
}

// A nil *Steps is a machine: it is stepped, and ends at once.
func TestNilSteps(t *testing.T) {
	var s *sched.Steps
	if !s.Step() || s.Left() != 0 {
		t.Error("Step, Left")
	}
	ms := []sched.Machine{nil, s}
	if l := sched.Run(ms, []int{0, 1, 1}); !slices.Equal(l.Steps, []int{1}) || !slices.Equal(l.Ended, []int{-1, 0}) {
		t.Errorf("Run: %v", l)
	}
	if l, ended := sched.RoundRobin(ms, 5); !slices.Equal(l.Steps, []int{1}) || !slices.Equal(l.Ended, []int{-1, 0}) || !ended {
		t.Errorf("RoundRobin: %v, %t", l, ended)
	}
	if !sched.Finish(s, 1) || sched.Finish(s, 0) {
		t.Error("Finish")
	}
}

// P8.2.
func TestFinish(t *testing.T) {
	for end := range 6 {
		for bound := -1; bound < 8; bound++ {
			p := &probe{end: end}
			want := bound >= max(end, 1)
			if got := sched.Finish(p, bound); got != want || p.steps != max(0, min(bound, max(end, 1))) {
				t.Errorf("Finish of %d steps with the bound %d = %t, after %d steps", end, bound, got, p.steps)
			}
		}
	}
	if sched.Finish(nil, 1) || sched.Finish(nil, math.MaxInt) || sched.Finish(nil, 0) || sched.Finish(sched.Of(1), math.MinInt) {
		t.Error("Finish executes nothing and ends")
	}
	if !sched.Finish(sched.Of(3), math.MaxInt) {
		t.Error("Finish with a great bound")
	}
}

// P8.2.
func TestRoundRobin(t *testing.T) {
	s := sequence(8)
	for range 400 {
		ends := s.list(-1, 5)
		total := 0
		for _, end := range ends {
			if end >= 0 {
				total += max(end, 1)
			}
		}
		for _, bound := range []int{math.MinInt, -1, 0, 1, total / 2, total - 1, total, total + 1, math.MaxInt} {
			want := model{ends: ends}
			for !want.allOver() && len(want.steps) < bound {
				for i := range ends {
					if len(want.steps) < bound {
						want.step(i)
					}
				}
			}
			ms := probes(ends)
			l, ended := sched.RoundRobin(ms, bound)
			want.check(t, l, ms)
			if ended != want.allOver() {
				t.Fatalf("RoundRobin of %v with the bound %d: %t", ends, bound, ended)
			}
		}
	}
}

func TestRoundRobinWithoutMachines(t *testing.T) {
	for _, bound := range []int{math.MinInt, -1, 0, 1, math.MaxInt} {
		if l, ended := sched.RoundRobin(nil, bound); !ended || len(l.Steps) != 0 || len(l.Ended) != 0 {
			t.Errorf("no machines, bound %d: %v, %t", bound, l, ended)
		}
		l, ended := sched.RoundRobin([]sched.Machine{nil, nil}, bound)
		if !ended || len(l.Steps) != 0 || !slices.Equal(l.Ended, []int{-1, -1}) {
			t.Errorf("nil machines, bound %d: %v, %t", bound, l, ended)
		}
	}
	l, ended := sched.RoundRobin([]sched.Machine{sched.Of(2), nil}, -1)
	if ended || len(l.Steps) != 0 || !slices.Equal(l.Ended, []int{-1, -1}) {
		t.Errorf("bound -1: %v, %t", l, ended)
	}
}

// A machine that ends is out of turn from then on.
func TestRoundRobinOrder(t *testing.T) {
	l, ended := sched.RoundRobin(probes([]int{2, -1, 1, 4}), 100)
	if !ended || !slices.Equal(l.Steps, []int{0, 2, 3, 0, 3, 3, 3}) || !slices.Equal(l.Ended, []int{3, -1, 1, 6}) {
		t.Errorf("%v, %t", l, ended)
	}
}

// P8.4.
func TestSteps(t *testing.T) {
	for _, n := range []int{math.MinInt, -7, -1, 0, 1, 2, 5, 100} {
		end := max(n, 1)
		s := sched.Of(n)
		for k := range end + 3 {
			left := max(end-k, 0)
			if s.Left() != left {
				t.Fatalf("Of(%d): Left after %d steps = %d", n, k, s.Left())
			}
			if s.Step() != (left <= 1) {
				t.Fatalf("Of(%d): step %d returns %t", n, k+1, left > 1)
			}
		}
	}
	s := sched.Of(math.MaxInt)
	if s.Left() != math.MaxInt || s.Step() || s.Left() != math.MaxInt-1 {
		t.Error("Of the greatest number")
	}
	a, b := sched.Of(2), sched.Of(2)
	a.Step()
	if a.Left() != 1 || b.Left() != 2 {
		t.Error("machines share their state")
	}
}

// Results are new memory, and arguments are not changed.
func TestNewMemory(t *testing.T) {
	picks := []int{1, 0, 3, 1}
	ms := probes([]int{1, 2})
	before := slices.Clone(ms)
	l := sched.Run(ms, picks)
	sched.RoundRobin(ms, 5)
	if !slices.Equal(picks, []int{1, 0, 3, 1}) || !slices.Equal(ms, before) {
		t.Error("an argument is changed")
	}
	for k := range l.Ended {
		l.Ended[k] = 9
	}
	_ = append(l.Ended, 9, 9, 9)
	if !slices.Equal(l.Steps, []int{1, 0, 1}) || !slices.Equal(picks, []int{1, 0, 3, 1}) {
		t.Error("slices share memory")
	}
}
