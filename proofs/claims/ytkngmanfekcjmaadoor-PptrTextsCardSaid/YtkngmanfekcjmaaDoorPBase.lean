/-
  CONTRACTS OF THE SMALL FUNCTIONS OF PACKAGE pptr AND OF ITS REFERENCE: Make, the parts, 'formed', Valid, At, Relocate, NextGen.
-/
import Derived.Test.YtkngmanfekcjmaaDoorPMath
set_option linter.unusedVariables false
set_option linter.unusedSimpArgs false
namespace Go.Proofs.YtkngmanfekcjmaaDoor.Base
open Go.ChangeShapes Go.WideShapes Go.ChangeAt Go.RowKit Go.Proofs.YtkngmanfekcjmaaDoor.PM
theorem wf_i64 {a : Int} (h : (Lit.int .i64 a).wf = true) : -9223372036854775808 ≤ a ∧ a ≤ 9223372036854775807 := by
  simpa [Lit.wf, IntKind.min, IntKind.max, IntKind.bits, IntKind.signed] using h
theorem wf_i32 {a : Int} (h : (Lit.int .i32 a).wf = true) : -2147483648 ≤ a ∧ a ≤ 2147483647 := by
  simpa [Lit.wf, IntKind.min, IntKind.max, IntKind.bits, IntKind.signed] using h
theorem wf_u64 {a : Int} (h : (Lit.int .u64 a).wf = true) : 0 ≤ a ∧ a ≤ 18446744073709551615 := by
  simpa [Lit.wf, IntKind.min, IntKind.max, IntKind.bits, IntKind.signed] using h
theorem wf_u16 {a : Int} (h : (Lit.int .u16 a).wf = true) : 0 ≤ a ∧ a ≤ 65535 := by
  simpa [Lit.wf, IntKind.min, IntKind.max, IntKind.bits, IntKind.signed] using h
theorem wf_u8 {a : Int} (h : (Lit.int .u8 a).wf = true) : 0 ≤ a ∧ a ≤ 255 := by
  simpa [Lit.wf, IntKind.min, IntKind.max, IntKind.bits, IntKind.signed] using h
theorem ret_bool {a b : Bool} (h : a = b) : Ending.returned (.bool a) = .returned (.bool b) := by rw [h]
theorem ret_int {k : IntKind} {a b : Int} (h : a = b) : Ending.returned (.int k a) = .returned (.int k b) := by rw [h]
abbrev two (v : Int) (e : Int) : Value := .tuple #[.int .u64 v, .int .i64 e]
theorem ret_two {a c : Int} {y : Value} (h : a = c) : Ending.returned (.tuple #[.int .u64 a, y]) = .returned (.tuple #[.int .u64 c, y]) := by rw [h]
theorem make_any (o g k : Int) (w : World) (ho : 0 ≤ o ∧ o ≤ 18446744073709551615) (hg : 0 ≤ g ∧ g ≤ 65535) (hk : 0 ≤ k ∧ k ≤ 255) :
    Calls Tryd.prog 11 #[.int .u64 o, .int .u16 g, .int .u8 k] w fun e w' => e = .returned (two (mVal o g k) (mErr o g k)) ∧ w' = w := by
  obtain ⟨ho, ho2⟩ := ho
  obtain ⟨hg, hg2⟩ := hg
  obtain ⟨hk, hk2⟩ := hk
  go_enter Tryd.func11, Tryd.ntmps11
  go_wp2
  all_goals first
    | (have hb := m_bad (show bad o g k by unfold bad; first | omega | (simp_all))
       go_ret2; rw [hb.1, hb.2]; exact ⟨rfl, rfl⟩)
    | (have hb := m_far (show ¬ bad o g k by unfold bad; omega) (by omega)
       go_ret2; rw [hb.1, hb.2]; exact ⟨rfl, rfl⟩)
    | (have hb := m_ok (show ¬ bad o g k by unfold bad; omega) (by omega)
       go_ret2; rw [hb.1, hb.2]; refine ⟨?_, rfl⟩; exact ret_two (or_two (o / 8) g k (by omega) (by omega) ⟨hg, hg2⟩ ⟨hk, hk2⟩))
theorem rmake_any (o g k : Int) (w : World) (ho : 0 ≤ o ∧ o ≤ 18446744073709551615) (hg : 0 ≤ g ∧ g ≤ 65535) (hk : 0 ≤ k ∧ k ≤ 255) :
    Calls Tryd.prog 12 #[.int .u64 o, .int .u16 g, .int .u8 k] w fun e w' => e = .returned (two (mVal o g k) (mErr o g k)) ∧ w' = w := by
  obtain ⟨ho, ho2⟩ := ho
  obtain ⟨hg, hg2⟩ := hg
  obtain ⟨hk, hk2⟩ := hk
  go_enter Tryd.func12, Tryd.ntmps12
  go_wp2
  all_goals first
    | (have hb := m_bad (show bad o g k by unfold bad; first | omega | (simp_all))
       go_ret2; rw [hb.1, hb.2]; exact ⟨rfl, rfl⟩)
    | (have hb := m_far (show ¬ bad o g k by unfold bad; omega) (by omega)
       go_ret2; rw [hb.1, hb.2]; exact ⟨rfl, rfl⟩)
    | (have hb := m_ok (show ¬ bad o g k by unfold bad; omega) (by omega)
       go_ret2; rw [hb.1, hb.2]; refine ⟨?_, rfl⟩; exact rfl)
theorem off_any (p : Int) (w : World) (h0 : 0 ≤ p) (h1 : p ≤ 18446744073709551615) : Calls Tryd.prog 15 #[.int .u64 p] w fun e w' => e = .returned (.int .u64 (pOff p)) ∧ w' = w := by
  go_enter Tryd.func15, Tryd.ntmps15
  go_wp2
  go_ret
  exact ⟨ret_int (by unfold pOff; omega), rfl⟩
theorem gen_any (p : Int) (w : World) (h0 : 0 ≤ p) (h1 : p ≤ 18446744073709551615) : Calls Tryd.prog 16 #[.int .u64 p] w fun e w' => e = .returned (.int .u16 (pGen p)) ∧ w' = w := by
  go_enter Tryd.func16, Tryd.ntmps16
  go_wp2
  go_ret
  exact ⟨ret_int (by unfold pGen; rw [IntKind.wrap_u16]), rfl⟩
theorem kind_any (p : Int) (w : World) (h0 : 0 ≤ p) (h1 : p ≤ 18446744073709551615) : Calls Tryd.prog 17 #[.int .u64 p] w fun e w' => e = .returned (.int .u8 (pKnd p)) ∧ w' = w := by
  go_enter Tryd.func17, Tryd.ntmps17
  go_wp2
  go_ret
  exact ⟨ret_int (by unfold pKnd; omega), rfl⟩
theorem roff_any (p : Int) (w : World) (h0 : 0 ≤ p) (h1 : p ≤ 18446744073709551615) : Calls Tryd.prog 19 #[.int .u64 p] w fun e w' => e = .returned (.int .u64 (pOff p)) ∧ w' = w := by
  go_enter Tryd.func19, Tryd.ntmps19
  go_wp2
  go_ret
  exact ⟨ret_int (by unfold pOff; omega), rfl⟩
theorem rgen_any (p : Int) (w : World) (h0 : 0 ≤ p) (h1 : p ≤ 18446744073709551615) : Calls Tryd.prog 20 #[.int .u64 p] w fun e w' => e = .returned (.int .u16 (pGen p)) ∧ w' = w := by
  go_enter Tryd.func20, Tryd.ntmps20
  go_wp2
  go_ret
  exact ⟨ret_int (by unfold pGen; rw [IntKind.wrap_u16]), rfl⟩
theorem rkind_any (p : Int) (w : World) (h0 : 0 ≤ p) (h1 : p ≤ 18446744073709551615) : Calls Tryd.prog 21 #[.int .u64 p] w fun e w' => e = .returned (.int .u8 (pKnd p)) ∧ w' = w := by
  go_enter Tryd.func21, Tryd.ntmps21
  go_wp2
  go_ret
  exact ⟨ret_int (by unfold pKnd; omega), rfl⟩
theorem nil_any (p : Int) (w : World) : Calls Tryd.prog 14 #[.int .u64 p] w fun e w' => e = .returned (.bool (decide (p = 0))) ∧ w' = w := by
  go_enter Tryd.func14, Tryd.ntmps14
  go_wp2
  go_ret
  exact ⟨ret_bool rfl, rfl⟩
theorem wf_any (p : Int) (w : World) (h0 : 0 ≤ p) (h1 : p ≤ 18446744073709551615) : Calls Tryd.prog 31 #[.int .u64 p] w fun e w' => e = .returned (.bool (decide (Formed p))) ∧ w' = w := by
  have ho := pOff_range p
  have hg := pGen_range p
  have hk := pKnd_range p
  have hf := formed_iff p h0 h1
  have HM := Lib.hid (make_any (pOff p) (pGen p) (pKnd p) w (by omega) hg hk)
  generalize mVal (pOff p) (pGen p) (pKnd p) = v at *
  generalize mErr (pOff p) (pGen p) (pKnd p) = x at *
  obtain ⟨q, hq⟩ : ∃ q : Bool, decide (Formed p) = q := ⟨_, rfl⟩
  rw [hq]
  have HF : Hid ((x = 0 ∧ v = p) ↔ q = true) := Lib.hid (by rw [← hq, hf]; simp)
  clear hf hq
  go_enter Tryd.func31, Tryd.ntmps31
  go_wp2_with (first
    | (go_at_call 15; refine (off_any p _ h0 h1).mono ?_; rintro e w' ⟨rfl, rfl⟩)
    | (go_at_call 16; refine (gen_any p _ h0 h1).mono ?_; rintro e w' ⟨rfl, rfl⟩)
    | (go_at_call 17; refine (kind_any p _ h0 h1).mono ?_; rintro e w' ⟨rfl, rfl⟩)
    | (go_at_call 11; refine HM.out.mono ?_; rintro e w' ⟨rfl, rfl⟩))
  all_goals (go_ret; refine ⟨ret_bool ?_, rfl⟩; have hf := HF.out; rw [Bool.eq_iff_iff, ← hf]; first | (simp only [beq_iff_eq]; omega) | (simp only [Bool.false_eq_true, false_iff]; omega))
theorem formed_any (p : Int) (w : World) (h0 : 0 ≤ p) (h1 : p ≤ 18446744073709551615) : Calls Tryd.prog 22 #[.int .u64 p] w fun e w' => e = .returned (.bool (decide (Formed p))) ∧ w' = w := by
  have ho := pOff_range p
  have hg := pGen_range p
  have hk := pKnd_range p
  have hf := formed_iff p h0 h1
  have HM := Lib.hid (rmake_any (pOff p) (pGen p) (pKnd p) w (by omega) hg hk)
  generalize mVal (pOff p) (pGen p) (pKnd p) = v at *
  generalize mErr (pOff p) (pGen p) (pKnd p) = x at *
  obtain ⟨q, hq⟩ : ∃ q : Bool, decide (Formed p) = q := ⟨_, rfl⟩
  rw [hq]
  have HF : Hid ((x = 0 ∧ v = p) ↔ q = true) := Lib.hid (by rw [← hq, hf]; simp)
  clear hf hq
  go_enter Tryd.func22, Tryd.ntmps22
  go_wp2_with (first
    | (go_at_call 19; refine (roff_any p _ h0 h1).mono ?_; rintro e w' ⟨rfl, rfl⟩)
    | (go_at_call 20; refine (rgen_any p _ h0 h1).mono ?_; rintro e w' ⟨rfl, rfl⟩)
    | (go_at_call 21; refine (rkind_any p _ h0 h1).mono ?_; rintro e w' ⟨rfl, rfl⟩)
    | (go_at_call 12; refine HM.out.mono ?_; rintro e w' ⟨rfl, rfl⟩))
  all_goals (go_ret; refine ⟨ret_bool ?_, rfl⟩; have hf := HF.out; rw [Bool.eq_iff_iff, ← hf]; first | (simp only [beq_iff_eq]; omega) | (simp only [Bool.false_eq_true, false_iff]; omega))
end Go.Proofs.YtkngmanfekcjmaaDoor.Base
