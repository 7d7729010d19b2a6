package mem_test

import (
	"slices"
	"testing"

	"bedrock/api"
	"bedrock/device"
	"bedrock/mem"
)

// P10.3.
func TestStep(t *testing.T) {
	s := sequence(31)
	for range 1000 {
		p := s.program()
		want := calls(p)
		r := &recorder{}
		stepper := mem.Step(r, p)
		// The stepper has a program of its own.
		spoil(p)
		r.check(t)
		for k := range len(want) + 3 {
			if left := max(len(want)-k, 0); stepper.Left() != left {
				t.Fatalf("after %d of %d steps %d are left", k, len(want), stepper.Left())
			}
			r.err = api.Errno(k % 4)
			if stepper.Err() != r.err {
				t.Fatalf("after %d steps the error is %v, want %v", k, stepper.Err(), r.err)
			}
			if stepper.Step() != (k+1 >= len(want)) {
				t.Fatalf("step %d of %d", k, len(want))
			}
			r.check(t, want[min(k, len(want)):min(k+1, len(want))]...)
		}
	}
}

func TestStepOfNothing(t *testing.T) {
	for _, p := range []mem.Program{nil, {}} {
		r := &recorder{err: api.ErrRange}
		s := mem.Step(r, p)
		if s.Left() != 0 || s.Err() != api.ErrRange || !s.Step() || s.Left() != 0 {
			t.Error(s.Left(), s.Err())
		}
		r.check(t)
	}
}

func TestStepThatCannotBegin(t *testing.T) {
	fence := mem.Instr{Op: mem.FenceOp}
	r := &recorder{err: api.ErrOff}
	steppers := []*mem.Stepper{
		nil, mem.Step(nil, nil), mem.Step(nil, mem.Program{fence}), mem.Step(nil, mem.Program{{}}),
		mem.Step(r, mem.Program{{}}), mem.Step(r, mem.Program{fence, {Op: 4}}), mem.Step(r, mem.Program{{Op: 255}, fence}),
	}
	for k, s := range steppers {
		for range 3 {
			if s.Left() != 0 || s.Err() != api.ErrArg || !s.Step() {
				t.Errorf("stepper %d: %d left, %v", k, s.Left(), s.Err())
			}
		}
	}
	r.check(t)
	if s := mem.Step(nil, nil); s == nil {
		t.Error("no stepper")
	}
}

// A stepper on a nil thread has a memory, whose error is ErrArg.
func TestStepOnANilThread(t *testing.T) {
	s := mem.Step((*device.Thread)(nil), mem.Program{{Op: mem.FenceOp}, {Op: mem.FenceOp}})
	if s.Left() != 2 || s.Err() != api.ErrArg || s.Step() || s.Left() != 1 || !s.Step() {
		t.Error(s.Left(), s.Err())
	}
}

// After the last step a device is as after Run, also if the power fails on the way.
func TestStepIsRun(t *testing.T) {
	s := sequence(32)
	for range 1000 {
		p := s.program()
		run, _ := device.New(4)
		arm := s.below(12) - 1
		run.Thread(0).Store(8, 1)
		run.Arm(arm)
		step := run.Copy()
		err := p.Run(run.Thread(1))
		stepper := mem.Step(step.Thread(1), p)
		for !stepper.Step() {
			if stepper.Left() == 0 {
				t.Fatal("the stepper has nothing left and has not ended")
			}
		}
		if stepper.Err() != err || step.Off() != run.Off() || step.Executed() != run.Executed() {
			t.Fatalf("%v armed %d: %v, want %v", p, arm, stepper.Err(), err)
		}
		if !slices.Equal(step.Current(), run.Current()) || !slices.Equal(step.Persisted(), run.Persisted()) {
			t.Fatalf("%v armed %d: other contents", p, arm)
		}
	}
}
