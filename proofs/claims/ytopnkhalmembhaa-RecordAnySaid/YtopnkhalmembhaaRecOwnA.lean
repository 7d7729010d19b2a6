/-
  CONTRACTS: the sizes of Array at an element of any size.
-/
import Derived.Test.YtopnkhalmembhaaRecOwn
set_option linter.unusedVariables false
set_option linter.unusedSimpArgs false
namespace Go.Proofs.Ytopnkhalmembhaa.Rec
open Go.ChangeShapes Go.WideShapes Go.ChangeAt Go.RowKit Go.Proofs.Ytopnkhalmembhaa.Mem Go.Proofs.Ytopnkhalmembhaa.Law Go.Proofs.Ytopnkhalmembhaa.Args Go.Proofs.Ytopnkhalmembhaa.Own
def aw (x N : Int) : Int := if x = 0 ∨ N < 0 ∨ 4095 / x < N then 0 else 1 + N * x
def af (x N : Int) : Int := if x = 0 ∨ N < 0 ∨ 4095 / x < N then 0 else x
theorem aw_bad {x N : Int} (h : x = 0 ∨ N < 0 ∨ 4095 / x < N) : aw x N = 0 := if_pos h
theorem af_bad {x N : Int} (h : x = 0 ∨ N < 0 ∨ 4095 / x < N) : af x N = 0 := if_pos h
theorem aw_ok {x N : Int} (h : ¬ (x = 0 ∨ N < 0 ∨ 4095 / x < N)) : aw x N = 1 + N * x := if_neg h
theorem af_ok {x N : Int} (h : ¬ (x = 0 ∨ N < 0 ∨ 4095 / x < N)) : af x N = x := if_neg h
theorem arr_sizes (ra : Value) (x N : Int) (hx : 0 ≤ x) (hx' : x ≤ 4096) (hw : (Lit.int .i64 N).wf = true)
    (HA : Hid (∀ w, Calls Try.prog 71 #[ra] w fun e w' => e = .returned (.int .i64 x) ∧ Below w.heap.size w w')) (w : World) :
    Calls Try.prog 70 #[.agg #[.int .i64 N, ra]] w fun e w' => e = .returned (.tuple #[.int .i64 (af x N), .int .i64 (aw x N)]) ∧ Below w.heap.size w w' := by
  have HB := Lib.hid (fun w1 (h : Below (w.alloc (.cells #[.int .i64 N, ra] 89)).heap.size (w.alloc (.cells #[.int .i64 N, ra] 89)) w1) => blk_below (two_new w (.int .i64 N) ra 89) h)
  have hN := wf_i64 hw
  clear hw
  by_cases c1 : x = 0
  · have HF := Lib.hid (af_bad (x := x) (N := N) (Or.inl c1))
    have HW := Lib.hid (aw_bad (x := x) (N := N) (Or.inl c1))
    have e1 : (x == 0) = true := by simp [c1]
    go_enter Try.func70, Try.ntmps70
    go_wp2_with (go_at_call 71; refine (HA.out _).mono ?_; rintro e w1 ⟨rfl, H1⟩; have hx0 := two0 (HB.out w1 H1))
    go_quiet (fail)
    go_wp2
    go_ret2
    exact ⟨ret_tw HF.out.symm HW.out.symm, below_draws (Below.after (al1 _ _) H1) _⟩
  · have e1 : (x == 0) = false := by simp [c1]
    have c0 : 0 < x := by omega
    by_cases c2 : N < 0
    · have HF := Lib.hid (af_bad (x := x) (N := N) (Or.inr (Or.inl c2)))
      have HW := Lib.hid (aw_bad (x := x) (N := N) (Or.inr (Or.inl c2)))
      have e2 : decide (N < 0) = true := decide_eq_true c2
      go_enter Try.func70, Try.ntmps70
      go_wp2_with (go_at_call 71; refine (HA.out _).mono ?_; rintro e w1 ⟨rfl, H1⟩; have hx0 := two0 (HB.out w1 H1))
      go_quiet (fail)
      go_wp2
      go_ret2
      exact ⟨ret_tw HF.out.symm HW.out.symm, below_draws (Below.after (al1 _ _) H1) _⟩
    · have e2 : decide (N < 0) = false := decide_eq_false c2
      by_cases c3 : 4095 / x < N
      · have HF := Lib.hid (af_bad (x := x) (N := N) (Or.inr (Or.inr c3)))
        have HW := Lib.hid (aw_bad (x := x) (N := N) (Or.inr (Or.inr c3)))
        have e3 : decide (4095 / x < N) = true := decide_eq_true c3
        go_enter Try.func70, Try.ntmps70
        go_wp2_with (go_at_call 71; refine (HA.out _).mono ?_; rintro e w1 ⟨rfl, H1⟩; have hx0 := two0 (HB.out w1 H1))
        go_quiet (fail)
        go_wp2
        go_ret2
        exact ⟨ret_tw HF.out.symm HW.out.symm, below_draws (Below.after (al1 _ _) H1) _⟩
      · have HF := Lib.hid (af_ok (x := x) (N := N) (by omega))
        have HW := Lib.hid (aw_ok (x := x) (N := N) (by omega))
        have e3 : decide (4095 / x < N) = false := decide_eq_false c3
        have hm : 0 ≤ N * x := Int.mul_nonneg (by omega) (by omega)
        have hm2 : N * x ≤ 4095 := Int.le_trans (Int.mul_le_mul_of_nonneg_right (by omega) (by omega)) (Int.ediv_mul_le 4095 (by omega))
        go_enter Try.func70, Try.ntmps70
        go_wp2_with (go_at_call 71; refine (HA.out _).mono ?_; rintro e w1 ⟨rfl, H1⟩; have hx0 := two0 (HB.out w1 H1))
        go_quiet (fail)
        go_wp2
        go_quiet (fail)
        go_wp2
        go_ret2
        exact ⟨ret_tw HF.out.symm HW.out.symm, below_draws (below_draws (Below.after (al1 _ _) H1) _) _⟩
theorem arr_words (ra : Value) (x N : Int) (hx : 0 ≤ x) (hx' : x ≤ 4096) (hw : (Lit.int .i64 N).wf = true)
    (HA : Hid (∀ w, Calls Try.prog 71 #[ra] w fun e w' => e = .returned (.int .i64 x) ∧ Below w.heap.size w w')) (w : World) :
    Calls Try.prog 42 #[.agg #[.int .i64 N, ra]] w fun e w' => e = .returned (.int .i64 (aw x N)) ∧ Below w.heap.size w w' := by
  have HV := Lib.hid hw
  clear hw
  go_enter Try.func42, Try.ntmps42
  go_wp2_with (go_at_call 70; refine (arr_sizes ra x N hx hx' HV.out HA _).mono ?_; rintro e w1 ⟨rfl, H1⟩)
  go_ret
  exact ⟨rfl, Below.after (al1 _ _) H1⟩
end Go.Proofs.Ytopnkhalmembhaa.Rec
