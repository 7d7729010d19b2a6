/-
  CONTRACTS: Valid, At, Relocate, NextGen, and the reference's Relocate.
-/
import Derived.Test.YtkngmanfekcjmaaDoorPBase
set_option linter.unusedVariables false
set_option linter.unusedSimpArgs false
namespace Go.Proofs.YtkngmanfekcjmaaDoor.Base
open Go.ChangeShapes Go.WideShapes Go.ChangeAt Go.RowKit Go.Proofs.YtkngmanfekcjmaaDoor.PM
theorem valid_any (p s : Int) (w : World) (h0 : 0 ≤ p) (h1 : p ≤ 18446744073709551615) (s0 : 0 ≤ s) (s1 : s ≤ 18446744073709551615) :
    Calls Tryd.prog 18 #[.int .u64 p, .int .u64 s] w fun e w' => e = .returned (.bool (decide (Formed p) && decide (pOff p < s))) ∧ w' = w := by
  go_enter Tryd.func18, Tryd.ntmps18
  go_wp2_with (first
    | (go_at_call 31; refine (wf_any p _ h0 h1).mono ?_; rintro e w' ⟨rfl, rfl⟩)
    | (go_at_call 15; refine (off_any p _ h0 h1).mono ?_; rintro e w' ⟨rfl, rfl⟩))
  all_goals (go_ret; refine ⟨ret_bool ?_, rfl⟩; first | (simp_all; done) | (trace_state; sorry))
def atV (p x : Int) : Int := if p = 0 ∨ x < 0 ∨ 60 ≤ x then 0 else pOff p + x * 8
theorem at_none {p x : Int} (h : p = 0 ∨ x < 0 ∨ 60 ≤ x) : atV p x = 0 := if_pos h
theorem at_word {p x : Int} (h : ¬ (p = 0 ∨ x < 0 ∨ 60 ≤ x)) : atV p x = pOff p + x * 8 := if_neg h
theorem at_any (p x : Int) (w : World) (h0 : 0 ≤ p) (h1 : p ≤ 18446744073709551615) (x0 : -9223372036854775808 ≤ x) (x1 : x ≤ 9223372036854775807) :
    Calls Tryd.prog 23 #[.int .u64 p, .int .i64 x] w fun e w' => e = .returned (.int .u64 (atV p x)) ∧ w' = w := by
  have ho := pOff_range p
  go_enter Tryd.func23, Tryd.ntmps23
  go_wp2_with (first
    | (go_at_call 14; refine (nil_any p _).mono ?_; rintro e w' ⟨rfl, rfl⟩)
    | (go_at_call 15; refine (off_any p _ h0 h1).mono ?_; rintro e w' ⟨rfl, rfl⟩))
  all_goals (go_ret; refine ⟨ret_int ?_, rfl⟩; first | (rw [at_none (by omega)]; done) | (rw [at_word (by omega)]; done) | (trace_state; sorry))
def nxV (g : Int) : Value := if g = 65535 then .tuple #[.int .u16 0, .bool false] else .tuple #[.int .u16 (g + 1), .bool true]
theorem nx_last : nxV 65535 = .tuple #[.int .u16 0, .bool false] := rfl
theorem nx_more {g : Int} (h : g ≠ 65535) : nxV g = .tuple #[.int .u16 (g + 1), .bool true] := if_neg h
theorem next_any (g : Int) (w : World) (h0 : 0 ≤ g) (h1 : g ≤ 65535) :
    Calls Tryd.prog 26 #[.int .u16 g] w fun e w' => e = .returned (nxV g) ∧ w' = w := by
  go_enter Tryd.func26, Tryd.ntmps26
  by_cases hg : g = 65535
  · subst hg
    go_wp2
    go_ret2
    exact ⟨rfl, rfl⟩
  · have HG := nx_more hg
    go_wp2
    go_ret2
    rw [HG]
    exact ⟨rfl, rfl⟩
theorem reloc_any (p d : Int) (w : World) (h0 : 0 ≤ p) (h1 : p ≤ 18446744073709551615) (d0 : -9223372036854775808 ≤ d) (d1 : d ≤ 9223372036854775807) :
    Calls Tryd.prog 24 #[.int .u64 p, .int .i64 d] w fun e w' => e = .returned (two (rVal p d) (rErr p d)) ∧ w' = w := by
  have HW := Lib.hid (wf_any p w h0 h1)
  by_cases hf : Formed p
  · rw [show decide (Formed p) = true by simpa using hf] at HW
    by_cases h8 : d % 8 = 0
    · obtain ⟨c, rfl⟩ : ∃ c, d = c * 8 := ⟨d / 8, by omega⟩
      have hm : (c * 8).tmod 8 = 0 := by rw [Int.mul_tmod_left]
      have hd : (c * 8).tdiv 8 = c := by rw [Int.mul_tdiv_cancel _ (by decide)]
      have hmv := moved p c hf h0
      have hfar := @r_far p (c * 8)
      have e8 : c * 8 / 8 = c := by omega
      have ho := pOff_range p
      have hg := pGen_range p
      have hk := pKnd_range p
      obtain ⟨n, hn⟩ : ∃ n, p % 4294967296 = n := ⟨_, rfl⟩
      have hn0 : 0 ≤ n ∧ n ≤ 4294967295 := by omega
      have hfar2 : n + c < 1 ∨ 4294967296 ≤ n + c → rVal p (c * 8) = 0 ∧ rErr p (c * 8) = 2 := fun h => hfar (by rintro (h' | h'); exact h' hf; omega) (by omega)
      rw [hn] at hmv ho
      clear hfar hf h8
      have HO : Hid (Calls Tryd.prog 15 #[.int .u64 p] w fun e w' => e = .returned (.int .u64 (n * 8)) ∧ w' = w) := Lib.hid (by rw [← hn]; exact off_any p w h0 h1)
      have H3 := Lib.hid hmv
      have H4 := Lib.hid hfar2
      clear hmv hfar2 hn ho e8
      go_enter Tryd.func24, Tryd.ntmps24
      go_wp2_with (first
        | (go_at_call 31; refine HW.out.mono ?_; rintro e w' ⟨rfl, rfl⟩)
        | (go_at_call 15; refine HO.out.mono ?_; rintro e w' ⟨rfl, rfl⟩)
        | (go_at_call 16; refine (gen_any p _ h0 h1).mono ?_; rintro e w' ⟨rfl, rfl⟩)
        | (go_at_call 17; refine (kind_any p _ h0 h1).mono ?_; rintro e w' ⟨rfl, rfl⟩)
        | (go_at_call 11; refine (make_any _ _ _ _ (by omega) hg hk).mono ?_; rintro e w' ⟨rfl, rfl⟩))
      all_goals (go_ret2; first | (rw [(H4.out (by omega)).1, (H4.out (by omega)).2]; exact ⟨rfl, rfl⟩) | (rw [(H3.out (by omega)).1, (H3.out (by omega)).2]; exact ⟨rfl, rfl⟩))
    · have HB := Lib.hid (r_bad (p := p) (d := d) (.inr h8))
      have hm : ¬ d.tmod 8 = 0 := fun h => h8 (Int.emod_eq_zero_of_dvd (Int.dvd_of_tmod_eq_zero h))
      clear h8 hf
      go_enter Tryd.func24, Tryd.ntmps24
      go_wp2_with (go_at_call 31; refine HW.out.mono ?_; rintro e w' ⟨rfl, rfl⟩)
      go_ret2
      rw [HB.out.1, HB.out.2]; exact ⟨rfl, rfl⟩
  · rw [show decide (Formed p) = false by simpa using hf] at HW
    have HB := Lib.hid (r_bad (p := p) (d := d) (.inl hf))
    clear hf
    go_enter Tryd.func24, Tryd.ntmps24
    go_wp2_with (go_at_call 31; refine HW.out.mono ?_; rintro e w' ⟨rfl, rfl⟩)
    go_ret2
    rw [HB.out.1, HB.out.2]; exact ⟨rfl, rfl⟩
theorem rreloc_any (p d : Int) (w : World) (h0 : 0 ≤ p) (h1 : p ≤ 18446744073709551615) (d0 : -9223372036854775808 ≤ d) (d1 : d ≤ 9223372036854775807) :
    Calls Tryd.prog 25 #[.int .u64 p, .int .i64 d] w fun e w' => e = .returned (two (rVal p d) (rErr p d)) ∧ w' = w := by
  have HW := Lib.hid (formed_any p w h0 h1)
  by_cases hf : Formed p
  · rw [show decide (Formed p) = true by simpa using hf] at HW
    by_cases h8 : d % 8 = 0
    · obtain ⟨c, rfl⟩ : ∃ c, d = c * 8 := ⟨d / 8, by omega⟩
      have hm : (c * 8).tmod 8 = 0 := by rw [Int.mul_tmod_left]
      have hd : (c * 8).tdiv 8 = c := by rw [Int.mul_tdiv_cancel _ (by decide)]
      have hmv := moved p c hf h0
      have hfar := @r_far p (c * 8)
      have e8 : c * 8 / 8 = c := by omega
      have ho := pOff_range p
      have hg := pGen_range p
      have hk := pKnd_range p
      obtain ⟨n, hn⟩ : ∃ n, p % 4294967296 = n := ⟨_, rfl⟩
      have hn0 : 0 ≤ n ∧ n ≤ 4294967295 := by omega
      have hfar2 : n + c < 1 ∨ 4294967296 ≤ n + c → rVal p (c * 8) = 0 ∧ rErr p (c * 8) = 2 := fun h => hfar (by rintro (h' | h'); exact h' hf; omega) (by omega)
      rw [hn] at hmv ho
      clear hfar hf h8
      have H3 := Lib.hid hmv
      have H4 := Lib.hid hfar2
      clear hmv hfar2 ho e8
      go_enter Tryd.func25, Tryd.ntmps25
      go_wp2_with (first
        | (go_at_call 22; refine HW.out.mono ?_; rintro e w' ⟨rfl, rfl⟩)
        | (go_at_call 20; refine (rgen_any p _ h0 h1).mono ?_; rintro e w' ⟨rfl, rfl⟩)
        | (go_at_call 21; refine (rkind_any p _ h0 h1).mono ?_; rintro e w' ⟨rfl, rfl⟩)
        | (go_at_call 12; refine (rmake_any _ _ _ _ (by omega) hg hk).mono ?_; rintro e w' ⟨rfl, rfl⟩))
      all_goals (go_ret2; first | (rw [(H4.out (by omega)).1, (H4.out (by omega)).2]; exact ⟨rfl, rfl⟩) | (rw [(H3.out (by omega)).1, (H3.out (by omega)).2]; exact ⟨rfl, rfl⟩))
    · have HB := Lib.hid (r_bad (p := p) (d := d) (.inr h8))
      have hm : ¬ d.tmod 8 = 0 := fun h => h8 (Int.emod_eq_zero_of_dvd (Int.dvd_of_tmod_eq_zero h))
      clear h8 hf
      go_enter Tryd.func25, Tryd.ntmps25
      go_wp2_with (go_at_call 22; refine HW.out.mono ?_; rintro e w' ⟨rfl, rfl⟩)
      go_ret2
      rw [HB.out.1, HB.out.2]; exact ⟨rfl, rfl⟩
  · rw [show decide (Formed p) = false by simpa using hf] at HW
    have HB := Lib.hid (r_bad (p := p) (d := d) (.inl hf))
    clear hf
    go_enter Tryd.func25, Tryd.ntmps25
    go_wp2_with (go_at_call 22; refine HW.out.mono ?_; rintro e w' ⟨rfl, rfl⟩)
    go_ret2
    rw [HB.out.1, HB.out.2]; exact ⟨rfl, rfl⟩
end Go.Proofs.YtkngmanfekcjmaaDoor.Base
