/-
  CONTRACTS: the law's codec own (Words, Encode, Decode); the sizes of Pair, Array and Option at parts of any size.
-/
import Derived.Test.YtopnkhalmembhaaRecCodec
import Derived.Test.YtopnkhalmembhaaRecNum
set_option linter.unusedVariables false
set_option linter.unusedSimpArgs false
namespace Go.Proofs.Ytopnkhalmembhaa.Rec
open Go.ChangeShapes Go.WideShapes Go.ChangeAt Go.RowKit Go.Proofs.Ytopnkhalmembhaa.Mem Go.Proofs.Ytopnkhalmembhaa.Law Go.Proofs.Ytopnkhalmembhaa.Args Go.Proofs.Ytopnkhalmembhaa.Own
abbrev ownV (n : Int) : Value := .agg #[.int .i64 n]
abbrev ownC (n : Int) : Value := .iface 83 (ownV n)
theorem own_words (n : Int) (w : World) : Calls Try.prog 124 #[ownV n] w fun e w' => e = .returned (.int .i64 n) ∧ Below w.heap.size w w' := by
  go_enter Try.func124, Try.ntmps124
  go_wp2
  go_ret
  exact ⟨rfl, al1 _ _⟩
theorem size_ownC (n : Int) (hn : (Lit.int .i64 n).wf = true) (w : World) : Calls Try.prog 71 #[ownC n] w fun e w' => e = .returned (.int .i64 (vs n)) ∧ Below w.heap.size w w' :=
  size_own (ownV n) n w hn (Lib.hid (own_words n w))
def tw (x y : Int) : Int := if x = 0 ∨ y = 0 ∨ 4096 < x + y then 0 else x + y
def tf (x y : Int) : Int := if x = 0 ∨ y = 0 ∨ 4096 < x + y then 0 else x
theorem tw_bad {x y : Int} (h : x = 0 ∨ y = 0 ∨ 4096 < x + y) : tw x y = 0 := if_pos h
theorem tf_bad {x y : Int} (h : x = 0 ∨ y = 0 ∨ 4096 < x + y) : tf x y = 0 := if_pos h
theorem tw_ok {x y : Int} (h : ¬ (x = 0 ∨ y = 0 ∨ 4096 < x + y)) : tw x y = x + y := if_neg h
theorem tf_ok {x y : Int} (h : ¬ (x = 0 ∨ y = 0 ∨ 4096 < x + y)) : tf x y = x := if_neg h
theorem ret_tw {k : IntKind} {a b c d : Int} (h : a = c) (h' : b = d) : Ending.returned (.tuple #[.int k a, .int k b]) = .returned (.tuple #[.int k c, .int k d]) := by rw [h, h']
theorem pair_sizes (ra rb : Value) (x y : Int) (hx : 0 ≤ x) (hx' : x ≤ 4096) (hy : 0 ≤ y) (hy' : y ≤ 4096)
    (HA : Hid (∀ w, Calls Try.prog 71 #[ra] w fun e w' => e = .returned (.int .i64 x) ∧ Below w.heap.size w w'))
    (HR : Hid (∀ w, Calls Try.prog 71 #[rb] w fun e w' => e = .returned (.int .i64 y) ∧ Below w.heap.size w w')) (w : World) :
    Calls Try.prog 69 #[.agg #[ra, rb]] w fun e w' => e = .returned (.tuple #[.int .i64 (tf x y), .int .i64 (tw x y)]) ∧ Below w.heap.size w w' := by
  have HB := Lib.hid (fun w1 (h : Below (w.alloc (.cells #[ra, rb] 87)).heap.size (w.alloc (.cells #[ra, rb] 87)) w1) => blk_below (two_new w ra rb 87) h)
  rcases Int.eq_ofNat_of_zero_le hx with ⟨xn, rfl⟩
  rcases Int.eq_ofNat_of_zero_le hy with ⟨yn, rfl⟩
  by_cases c1 : (xn : Int) = 0
  · have HF := Lib.hid (tf_bad (x := (xn : Int)) (y := (yn : Int)) (Or.inl c1))
    have HW := Lib.hid (tw_bad (x := (xn : Int)) (y := (yn : Int)) (Or.inl c1))
    have T1 : True := trivial
    go_enter Try.func69, Try.ntmps69
    go_wp2_with (first
      | (go_at_call 71; have tt := T1; clear T1 tt; go_must (refine (HA.out _).mono ?_); rintro e w1 ⟨rfl, H1⟩; have hx1 := two1 (HB.out w1 H1))
      | (go_at_call 71; go_must (refine (HR.out _).mono ?_); rintro e w2 ⟨rfl, H2⟩))
    go_ret2
    exact ⟨ret_tw HF.out.symm HW.out.symm, Below.after (Below.after (al1 _ _) H1) H2⟩
  · by_cases c2 : (yn : Int) = 0
    · have HF := Lib.hid (tf_bad (x := (xn : Int)) (y := (yn : Int)) (Or.inr (Or.inl c2)))
      have HW := Lib.hid (tw_bad (x := (xn : Int)) (y := (yn : Int)) (Or.inr (Or.inl c2)))
      have T1 : True := trivial
      go_enter Try.func69, Try.ntmps69
      go_wp2_with (first
        | (go_at_call 71; have tt := T1; clear T1 tt; go_must (refine (HA.out _).mono ?_); rintro e w1 ⟨rfl, H1⟩; have hx1 := two1 (HB.out w1 H1))
        | (go_at_call 71; go_must (refine (HR.out _).mono ?_); rintro e w2 ⟨rfl, H2⟩))
      go_ret2
      exact ⟨ret_tw HF.out.symm HW.out.symm, Below.after (Below.after (al1 _ _) H1) H2⟩
    · by_cases c3 : 4096 < (xn : Int) + (yn : Int)
      · have HF := Lib.hid (tf_bad (x := (xn : Int)) (y := (yn : Int)) (Or.inr (Or.inr c3)))
        have HW := Lib.hid (tw_bad (x := (xn : Int)) (y := (yn : Int)) (Or.inr (Or.inr c3)))
        have T1 : True := trivial
        go_enter Try.func69, Try.ntmps69
        go_wp2_with (first
          | (go_at_call 71; have tt := T1; clear T1 tt; go_must (refine (HA.out _).mono ?_); rintro e w1 ⟨rfl, H1⟩; have hx1 := two1 (HB.out w1 H1))
          | (go_at_call 71; go_must (refine (HR.out _).mono ?_); rintro e w2 ⟨rfl, H2⟩))
        go_ret2
        exact ⟨ret_tw HF.out.symm HW.out.symm, Below.after (Below.after (al1 _ _) H1) H2⟩
      · have HF := Lib.hid (tf_ok (x := (xn : Int)) (y := (yn : Int)) (by omega))
        have HW := Lib.hid (tw_ok (x := (xn : Int)) (y := (yn : Int)) (by omega))
        have T1 : True := trivial
        go_enter Try.func69, Try.ntmps69
        go_wp2_with (first
          | (go_at_call 71; have tt := T1; clear T1 tt; go_must (refine (HA.out _).mono ?_); rintro e w1 ⟨rfl, H1⟩; have hx1 := two1 (HB.out w1 H1))
          | (go_at_call 71; go_must (refine (HR.out _).mono ?_); rintro e w2 ⟨rfl, H2⟩))
        all_goals go_ret2
        all_goals first
          | exact ⟨ret_tw HF.out.symm HW.out.symm, Below.after (Below.after (al1 _ _) H1) H2⟩
          | (exfalso; rename_i h; simp only [Bool.or_eq_true, beq_iff_eq, decide_eq_true_eq] at h; omega)
theorem pair_words (ra rb : Value) (x y : Int) (hx : 0 ≤ x) (hx' : x ≤ 4096) (hy : 0 ≤ y) (hy' : y ≤ 4096)
    (HA : Hid (∀ w, Calls Try.prog 71 #[ra] w fun e w' => e = .returned (.int .i64 x) ∧ Below w.heap.size w w'))
    (HR : Hid (∀ w, Calls Try.prog 71 #[rb] w fun e w' => e = .returned (.int .i64 y) ∧ Below w.heap.size w w')) (w : World) :
    Calls Try.prog 41 #[.agg #[ra, rb]] w fun e w' => e = .returned (.int .i64 (tw x y)) ∧ Below w.heap.size w w' := by
  go_enter Try.func41, Try.ntmps41
  go_wp2_with (go_at_call 69; go_must (refine (pair_sizes ra rb x y hx hx' hy hy' HA HR _).mono ?_); rintro e w1 ⟨rfl, H1⟩)
  go_ret
  exact ⟨rfl, Below.after (al1 _ _) H1⟩
def ow (y : Int) : Int := if y = 0 ∨ 4096 ≤ y then 0 else y + 1
theorem ow_bad {y : Int} (h : y = 0 ∨ 4096 ≤ y) : ow y = 0 := if_pos h
theorem ow_ok {y : Int} (h : ¬ (y = 0 ∨ 4096 ≤ y)) : ow y = y + 1 := if_neg h
theorem opt_words (rb : Value) (y : Int) (hy : 0 ≤ y) (hy' : y ≤ 4096)
    (HR : Hid (∀ w, Calls Try.prog 71 #[rb] w fun e w' => e = .returned (.int .i64 y) ∧ Below w.heap.size w w')) (w : World) :
    Calls Try.prog 43 #[.agg #[rb]] w fun e w' => e = .returned (.int .i64 (ow y)) ∧ Below w.heap.size w w' := by
  by_cases c1 : y = 0
  · have HW := Lib.hid (ow_bad (Or.inl c1))
    go_enter Try.func43, Try.ntmps43
    go_wp2_with (go_at_call 71; go_must (refine (HR.out _).mono ?_); rintro e w2 ⟨rfl, H2⟩)
    go_ret
    exact ⟨ret_int HW.out.symm, Below.after (al1 _ _) H2⟩
  · by_cases c2 : 4096 ≤ y
    · have HW := Lib.hid (ow_bad (Or.inr c2))
      go_enter Try.func43, Try.ntmps43
      go_wp2_with (go_at_call 71; go_must (refine (HR.out _).mono ?_); rintro e w2 ⟨rfl, H2⟩)
      go_ret
      exact ⟨ret_int HW.out.symm, Below.after (al1 _ _) H2⟩
    · have HW := Lib.hid (ow_ok (y := y) (by omega))
      go_enter Try.func43, Try.ntmps43
      go_wp2_with (go_at_call 71; go_must (refine (HR.out _).mono ?_); rintro e w2 ⟨rfl, H2⟩)
      all_goals go_ret
      all_goals first
        | exact ⟨ret_int (by rw [HW.out]; exact Int.add_comm 1 y), Below.after (al1 _ _) H2⟩
        | (exfalso; rename_i h; simp only [Bool.or_eq_true, beq_iff_eq, decide_eq_true_eq] at h; omega)
theorem valid_any (n : Int) (w : World) : Calls Try.prog 40 #[.int .i64 n] w fun e w' => e = .returned (.bool (decide (1 ≤ n ∧ n ≤ 4096))) ∧ w' = w := by
  rcases Int.lt_or_le n 1 with h1 | h1
  · have HV : Hid (decide (1 ≤ n ∧ n ≤ 4096) = false) := Lib.hid (by simp; omega)
    go_enter Try.func40, Try.ntmps40
    go_wp2
    go_ret
    exact ⟨ret_bool (by first | exact HV.out.symm | (simp; omega) | (simp only [decide_eq_decide]; omega)), rfl⟩
  · rcases Int.lt_or_le 4096 n with h2 | h2
    · have HV : Hid (decide (1 ≤ n ∧ n ≤ 4096) = false) := Lib.hid (by simp; omega)
      go_enter Try.func40, Try.ntmps40
      go_wp2
      go_ret
      exact ⟨ret_bool (by first | exact HV.out.symm | (simp; omega) | (simp only [decide_eq_decide]; omega)), rfl⟩
    · have HV : Hid (decide (1 ≤ n ∧ n ≤ 4096) = true) := Lib.hid (by simp; omega)
      go_enter Try.func40, Try.ntmps40
      go_wp2
      go_ret
      exact ⟨ret_bool (by first | exact HV.out.symm | (simp; omega) | (simp only [decide_eq_decide]; omega)), rfl⟩
end Go.Proofs.Ytopnkhalmembhaa.Rec
