/-
  PROVED: the law DeviceNews answers true for every input, and each argument reads behind the call as before (Rows.DeviceNewsSaid). No condition.
-/
import Derived.Test.YtbonponclcehiaaZF
import Derived.Deep.Cut
import Derived.Deep.DeepCutAuto
import Derived.Test.YtbonponclcehiaaRows
import Derived.Test.YtbonponclcehiaaZA
set_option linter.unusedVariables false
set_option linter.unusedSimpArgs false
/-
  DeviceNews: what it calls.
-/
namespace Go.Proofs.Ytbonponclcehiaa.Dev
open Go.ChangeShapes Go.WideShapes Go.ChangeAt Go.RowKit Go.Proofs.Ytbonponclcehiaa.Mem Go.Proofs.Ytbonponclcehiaa.Args Go.Proofs.Ytbonponclcehiaa.Own Go.Proofs.Ytbonponclcehiaa.PackMath
theorem short_gen (w : World) (A : Option Addr) (n c B N : Nat) (zs : List Int) (hN : N ≤ 1000) (hl : zs.length = n) (hnc : n ≤ c) (hc : c ≤ maxLen) (hr : IntsAt .u8 w B A zs) :
    Calls Try.prog 13 #[.slice A n c, .int .i64 (N : Int)] w fun q w' => q = .returned (.slice A (min n N) c) ∧ w' = w := by
  have hcl : c ≤ 9223372036854775807 := by unfold maxLen at hc; omega
  by_cases h : N < n
  · have hi : (N : Int) < (n : Int) := by omega
    obtain ⟨ad, rfl, _, _⟩ := hr 0 (by omega)
    have hm : min n N = N := by omega
    have hci : (N : Int) ≤ (c : Int) := by omega
    have hN0 : (0 : Int) ≤ (N : Int) := by omega
    rw [hm]
    clear hr hm
    go_enter Try.func13, Try.ntmps13
    go_wp2
    go_ret
    exact ⟨rfl, rfl⟩
  · have hi : ¬ (N : Int) < (n : Int) := by omega
    have hm : min n N = n := by omega
    rw [hm]
    clear hr hm
    go_enter Try.func13, Try.ntmps13
    go_wp2
    go_ret
    exact ⟨rfl, rfl⟩
theorem dfrom_form (w : World) (P : Option Addr) (len c : Nat) (h : len % 64 ≠ 0) :
    Calls Try.prog 18 #[.slice P len c] w fun e w' => e = .returned (.tuple #[.pointer none, .int .i64 11]) ∧ w' = w := by
  obtain ⟨r, hr⟩ : ∃ r, len % 64 = r := ⟨_, rfl⟩
  have h1 : (len : Int) % 64 = (r : Int) := by omega
  have h2 : (len : Int).tmod 64 = (r : Int) := by rw [Int.tmod_eq_emod_of_nonneg (by omega)]; exact h1
  have h3 : ((r : Int) == 0) = false := by simp; omega
  have h4 : ¬ (r : Int) = 0 := by omega
  clear h hr
  go_enter Try.func18, Try.ntmps18
  go_wp2
  go_ret2
  exact ⟨rfl, rfl⟩
theorem dfrom_none (w : World) (P : Option Addr) (c : Nat) :
    Calls Try.prog 18 #[.slice P 0 c] w fun e w' => e = .returned (.tuple #[.pointer none, .int .i64 1]) ∧ w' = w := by
  have HN := Lib.hid (new_bad w 0 (.inl (by omega)))
  go_enter Try.func18, Try.ntmps18
  go_wp2_with (go_at_call 14; go_must (refine HN.out.mono ?_); rintro e w' ⟨rfl, hw⟩; have hw2 := hw.symm; clear hw; subst hw2)
  go_ret2
  exact ⟨rfl, rfl⟩
/-- A new device and a new reference. -/
theorem new_twin (w : World) (x n : Nat) (h0 : 1 ≤ n) (h1 : n ≤ 4096) (hd : ∃ A : Adr, A.d = x ∧ IsDev w 0 A (St.new n)) :
    Calls Try.prog 16 #[.int .i64 (n : Int)] w fun e w' => ∃ y, e = .returned (.pointer (some ⟨y, 0, none⟩)) ∧ Below w.heap.size w w' ∧ Hid (Twin w' x y) := by
  obtain ⟨A, hA, hdev⟩ := hd
  refine (rnew_any w n h0 h1).mono ?_
  rintro e w' ⟨R, e1, H⟩
  exact ⟨R.d, e1, H.out.2, Lib.hid ⟨A, R, 0, _, hA, rfl, hdev.below H.out.2 (Nat.le_refl _), H.out.1.mono (Nat.zero_le _), St.new_ok n h0 h1, by omega⟩⟩
end Go.Proofs.Ytbonponclcehiaa.Dev
/-
  DeviceNews: the walk.
-/
namespace Go.Proofs.Ytbonponclcehiaa.Dev
open Go.ChangeShapes Go.WideShapes Go.ChangeAt Go.RowKit Go.Proofs.Ytbonponclcehiaa.Mem Go.Proofs.Ytbonponclcehiaa.Args Go.Proofs.Ytbonponclcehiaa.Own Go.Proofs.Ytbonponclcehiaa.PackMath
theorem Made.rebaseN {w w' w2 : World} {e : Ending} {n : Nat} {cs : List Int} (h : Made w' w' w2 e n cs) (hb : Below w.heap.size w w') : Made w w' w2 e n cs := by
  obtain ⟨D, c, he, hb2, _, H⟩ := h
  exact ⟨D, c, he, hb2, hb.trans (hb2.mono hb.size), H⟩
set_option maxRecDepth 100000 in
set_option maxHeartbeats 8000000 in
theorem news_walk (W : World) (a : Int) (A1 : Option Addr) (n1 c1 : Nat) (z1 : List Int) (l1 : z1.length = n1) (b1 : n1 ≤ c1) (m1 : c1 ≤ maxLen) (r1 : IntsAt .u8 W W.heap.size A1 z1) (w1 : ∀ z ∈ z1, (Lit.int .u8 z).wf = true) :
    Calls Try.prog 3 #[.int .i64 a, .slice A1 n1 c1] W fun e W' => e = .returned (.bool true) ∧ Below W.heap.size W W' := by
  have HSHORT : Hid (∀ w, Below W.heap.size W w → Calls Try.prog 13 #[.slice A1 n1 c1, .int .i64 400] w fun q w' => q = .returned (.slice A1 (min n1 400) c1) ∧ w' = w) := Lib.hid fun w hb => short_gen w A1 n1 c1 W.heap.size 400 z1 (by omega) l1 b1 m1 (r1.below hb)
  obtain ⟨ch, hchl, hchr, hchw⟩ : ∃ ch : List Int, ch.length = min n1 400 ∧ IntsAt .u8 W W.heap.size A1 ch ∧ ∀ x ∈ ch, 0 ≤ x ∧ x ≤ 255 := by
    refine ⟨z1.take (min n1 400), by rw [List.length_take]; omega, r1.take _, fun x hx => ?_⟩
    have := w1 x (List.mem_of_mem_take hx)
    simpa [Lit.wf, IntKind.min, IntKind.max, IntKind.bits, IntKind.signed] using this
  obtain ⟨m, hm⟩ : ∃ m, min n1 400 = m := ⟨_, rfl⟩
  have hmc : m ≤ c1 := by omega
  rw [hm] at hchl HSHORT
  have hm400 : m ≤ 400 := by omega
  have HCL := Lib.hid hchl
  have HCR := Lib.hid hchr
  have HCW := Lib.hid hchw
  have HM1 := Lib.hid m1
  have HB0 : Hid (Below W.heap.size W W) := Lib.hid (Below.refl _ _)
  clear l1 b1 m1 r1 w1 hchl hchr hchw hm
  rcases (show a < 1 ∨ (4096 < a ∧ a ≤ 5000) ∨ 5000 < a ∨ ∃ k : Nat, a = (k : Int) ∧ 1 ≤ k ∧ k ≤ 4096 by
    by_cases h1 : a < 1
    · exact .inl h1
    · by_cases h2 : 4096 < a
      · by_cases h3 : a ≤ 5000
        · exact .inr (.inl ⟨h2, h3⟩)
        · exact .inr (.inr (.inl (by omega)))
      · exact .inr (.inr (.inr ⟨a.toNat, by omega, by omega, by omega⟩))) with ha | ⟨ha, h5⟩ | ha | ⟨k, rfl, hk1, hk2⟩
  · have HNE := Lib.hid (fun w => new_bad w a (.inl ha))
    have h5 : a ≤ 5000 := by omega
    have hmin : min a 5000 = a := by omega
    go_enter Try.func3, Try.ntmps3
    go_upto_region 11 with (first
      | (go_at_call 12; go_must (refine (awake_any _).mono ?_); rintro e w2 ⟨rfl, H2⟩; have HWX : Hid (Below W.heap.size W w2) := Lib.hid H2.out)
      | (go_at_call 13; go_must (refine (HSHORT.out _ HWX.out).mono ?_); rintro e w' ⟨rfl, hw⟩; have hw2 := hw.symm; clear hw; subst hw2)
      | (go_at_call 14; go_must (refine (HNE.out _).mono ?_); rintro e w' ⟨rfl, hw⟩; have hw2 := hw.symm; clear hw; subst hw2))
    clear HNE HSHORT h5 hmin ha
    rcases (show m % 64 ≠ 0 ∨ m = 0 ∨ ∃ q, m = 64 * q ∧ 1 ≤ q ∧ q ≤ 4096 by
      by_cases h1 : m % 64 = 0
      · by_cases h2 : m = 0
        · exact .inr (.inl h2)
        · exact .inr (.inr ⟨m / 64, by omega, by omega, by omega⟩)
      · exact .inl h1) with h64 | h64 | ⟨q, hq, hq1, hq2⟩
    · have HF := Lib.hid (dfrom_form w2 A1 m c1 h64)
      obtain ⟨rr, hrr⟩ : ∃ rr, m % 64 = rr := ⟨_, rfl⟩
      have q1 : (m : Int) % 64 = (rr : Int) := by omega
      have q2 : (m : Int).tmod 64 = (rr : Int) := by rw [Int.tmod_eq_emod_of_nonneg (by omega)]; exact q1
      have q3 : ((rr : Int) == 0) = false := by simp; omega
      have q4 : ¬ (rr : Int) = 0 := by omega
      clear h64 hrr
      go_wp2_with (go_at_call 18; go_must (refine HF.out.mono ?_); rintro e w' ⟨rfl, hw⟩; have hw2 := hw.symm; clear hw; subst hw2)
      go_ret
      exact ⟨rfl, HWX.out⟩
    · subst h64
      have HF := Lib.hid (dfrom_none w2 A1 c1)
      go_wp2_with (go_at_call 18; go_must (refine HF.out.mono ?_); rintro e w' ⟨rfl, hw⟩; have hw2 := hw.symm; clear hw; subst hw2)
      go_ret
      exact ⟨rfl, HWX.out⟩
    · have hcl : ch.length = 64 * q := by rw [HCL.out]; exact hq
      have HF := Lib.hid (dfrom_any w2 A1 m c1 W.heap.size q ch HCL.out hq hq1 hq2 hmc HM1.out (HCR.out.below HWX.out) HWX.out.size HCW.out)
      have q1 : (m : Int) % 64 = 0 := by omega
      have q2 : (m : Int).tmod 64 = 0 := by rw [Int.tmod_eq_emod_of_nonneg (by omega)]; exact q1
      have q3 : ((m : Int) == 0) = false := by simp; omega
      have q4 : ¬ (m : Int) = 0 := by omega
      have HQ := Lib.hid hq
      have HQ1 := Lib.hid hq1
      have HQ2 := Lib.hid hq2
      have HCQ := Lib.hid hcl
      clear hcl hq hq1 hq2
      go_upto_region 16 with (go_at_call 18; go_must (refine HF.out.mono ?_); rintro e w9 ⟨A9, rfl, H9⟩)
      have HW9 : Hid (Below W.heap.size W w9) := Lib.hid (HWX.out.trans (H9.out.2.mono HWX.out.size))
      have HRF : Hid (∀ w', Below w9.heap.size w9 w' → Calls Try.prog 19 #[.slice A1 m c1] w' fun e w2 => ∃ y, e = .returned (.pointer (some ⟨y, 0, none⟩)) ∧ Below w'.heap.size w' w2 ∧ Below w9.heap.size w9 w2 ∧ Hid (Twin w2 A9.d y)) := Lib.hid fun w' hb => by
        have hW := HW9.out.trans (hb.mono HW9.out.size)
        have := from_twin w' A1 c1 q A9.d W.heap.size ch HCQ.out HQ1.out HQ2.out (HCR.out.below hW) hW.size HCW.out ⟨A9, rfl, (H9.out.1.mono (Nat.zero_le _)).below hb (Nat.le_refl _)⟩
        rw [← HQ.out] at this
        refine this.mono ?_
        rintro e w2 ⟨y, e1, h1, h2⟩
        exact ⟨y, e1, h1, hb.trans (h1.mono hb.size), h2⟩
      have HSM : Hid (∀ w' x' y', Below w9.heap.size w9 w' → Twin w' x' y' → Calls Try.prog 15 #[.pointer (some ⟨x', 0, none⟩), .pointer (some ⟨y', 0, none⟩)] w' fun q w2 => q = .returned (.bool true) ∧ Below w9.heap.size w9 w2 ∧ Below w'.heap.size w' w2) := Lib.hid fun w' x' y' hb ht => by
        refine (same_twin ht).mono ?_
        rintro q w2 ⟨e, h⟩
        exact ⟨e, hb.trans (h.mono hb.size), h⟩
      have HPE : Hid (∀ w', Below w9.heap.size w9 w' → Calls Try.prog 20 #[.pointer (some ⟨A9.d, 0, none⟩)] w' fun e w2 => Made w9 w' w2 e m ch) := Lib.hid fun w' hb => by
        refine (persisted_any w' _ 0 A9 (St.fromK ch q q) (H9.out.1.below hb (Nat.le_refl _)) (St.fromK_ok ch q q HCW.out HQ1.out HQ2.out) (by omega)).mono ?_
        rintro e w2 ⟨v, he, H⟩
        have h3 := Made.of (Below.refl _ _) he H.out.1 H.out.2
        have h4 : content (St.fromK ch q q) (fun _ => 0) (St.fromK ch q q).n = ch := by
          show content (St.fromK ch q q) (fun _ => 0) q = ch
          rw [content_from ch q q (Nat.le_refl _) HCQ.out HCW.out, List.take_of_length_le (by rw [HCQ.out]; omega)]
        rw [h4, HCL.out] at h3
        exact h3.rebaseN hb
      have HKP : Hid (∀ w', Below w9.heap.size w9 w' → (convert 22 9 (.slice A1 m c1)).run Try.prog w' = .ok (.string (bstr ch)) w') := Lib.hid fun w' hb => conv_bytes Try.underlying22 Try.underlying5 Try.underlying9 (HCR.out.below (HW9.out.trans (hb.mono HW9.out.size))) HCL.out
      have hS0 : Below w9.heap.size w9 w9 := Below.refl _ _
      have hS1 : Below w9.heap.size w9 w9.drew := hS0.drew
      have kp0 := HKP.out w9 hS0
      have kp1 := HKP.out w9.drew hS1
      clear q1 q2 q3 q4
      go_region_with (first
        | (go_at_call 20; go_must (refine (HPE.out _ (by assumption)).mono ?_); rintro e w5 ⟨D5, c5, rfl, b5, a5, K5⟩; have k5 := K5.out w5 (Below.refl _ _); have kp5 := HKP.out w5 a5)
        | (go_at_call 19; go_must (refine (HRF.out _ (by assumption)).mono ?_); rintro e w6 ⟨y, rfl, b6, a6, T6⟩; have kp6 := HKP.out w6 a6)
        | (go_at_call 15; go_must (refine (HSM.out _ _ _ (by assumption) (by exact T6.out)).mono ?_); rintro e w7 ⟨rfl, a7, b7⟩; have kp7 := HKP.out w7 a7))
      all_goals (go_wp2; go_ret; exact ⟨rfl, HW9.out.trans ((show Below w9.heap.size w9 _ by assumption).mono HW9.out.size)⟩)
  · have HNE := Lib.hid (fun w => new_bad w a (.inr ha))
    have hmin : min a 5000 = a := by omega
    have ha0 : ¬ a < 1 := by omega
    go_enter Try.func3, Try.ntmps3
    go_upto_region 11 with (first
      | (go_at_call 12; go_must (refine (awake_any _).mono ?_); rintro e w2 ⟨rfl, H2⟩; have HWX : Hid (Below W.heap.size W w2) := Lib.hid H2.out)
      | (go_at_call 13; go_must (refine (HSHORT.out _ HWX.out).mono ?_); rintro e w' ⟨rfl, hw⟩; have hw2 := hw.symm; clear hw; subst hw2)
      | (go_at_call 14; go_must (refine (HNE.out _).mono ?_); rintro e w' ⟨rfl, hw⟩; have hw2 := hw.symm; clear hw; subst hw2))
    clear HNE HSHORT h5 hmin ha ha0
    rcases (show m % 64 ≠ 0 ∨ m = 0 ∨ ∃ q, m = 64 * q ∧ 1 ≤ q ∧ q ≤ 4096 by
      by_cases h1 : m % 64 = 0
      · by_cases h2 : m = 0
        · exact .inr (.inl h2)
        · exact .inr (.inr ⟨m / 64, by omega, by omega, by omega⟩)
      · exact .inl h1) with h64 | h64 | ⟨q, hq, hq1, hq2⟩
    · have HF := Lib.hid (dfrom_form w2 A1 m c1 h64)
      obtain ⟨rr, hrr⟩ : ∃ rr, m % 64 = rr := ⟨_, rfl⟩
      have q1 : (m : Int) % 64 = (rr : Int) := by omega
      have q2 : (m : Int).tmod 64 = (rr : Int) := by rw [Int.tmod_eq_emod_of_nonneg (by omega)]; exact q1
      have q3 : ((rr : Int) == 0) = false := by simp; omega
      have q4 : ¬ (rr : Int) = 0 := by omega
      clear h64 hrr
      go_wp2_with (go_at_call 18; go_must (refine HF.out.mono ?_); rintro e w' ⟨rfl, hw⟩; have hw2 := hw.symm; clear hw; subst hw2)
      go_ret
      exact ⟨rfl, HWX.out⟩
    · subst h64
      have HF := Lib.hid (dfrom_none w2 A1 c1)
      go_wp2_with (go_at_call 18; go_must (refine HF.out.mono ?_); rintro e w' ⟨rfl, hw⟩; have hw2 := hw.symm; clear hw; subst hw2)
      go_ret
      exact ⟨rfl, HWX.out⟩
    · have hcl : ch.length = 64 * q := by rw [HCL.out]; exact hq
      have HF := Lib.hid (dfrom_any w2 A1 m c1 W.heap.size q ch HCL.out hq hq1 hq2 hmc HM1.out (HCR.out.below HWX.out) HWX.out.size HCW.out)
      have q1 : (m : Int) % 64 = 0 := by omega
      have q2 : (m : Int).tmod 64 = 0 := by rw [Int.tmod_eq_emod_of_nonneg (by omega)]; exact q1
      have q3 : ((m : Int) == 0) = false := by simp; omega
      have q4 : ¬ (m : Int) = 0 := by omega
      have HQ := Lib.hid hq
      have HQ1 := Lib.hid hq1
      have HQ2 := Lib.hid hq2
      have HCQ := Lib.hid hcl
      clear hcl hq hq1 hq2
      go_upto_region 16 with (go_at_call 18; go_must (refine HF.out.mono ?_); rintro e w9 ⟨A9, rfl, H9⟩)
      have HW9 : Hid (Below W.heap.size W w9) := Lib.hid (HWX.out.trans (H9.out.2.mono HWX.out.size))
      have HRF : Hid (∀ w', Below w9.heap.size w9 w' → Calls Try.prog 19 #[.slice A1 m c1] w' fun e w2 => ∃ y, e = .returned (.pointer (some ⟨y, 0, none⟩)) ∧ Below w'.heap.size w' w2 ∧ Below w9.heap.size w9 w2 ∧ Hid (Twin w2 A9.d y)) := Lib.hid fun w' hb => by
        have hW := HW9.out.trans (hb.mono HW9.out.size)
        have := from_twin w' A1 c1 q A9.d W.heap.size ch HCQ.out HQ1.out HQ2.out (HCR.out.below hW) hW.size HCW.out ⟨A9, rfl, (H9.out.1.mono (Nat.zero_le _)).below hb (Nat.le_refl _)⟩
        rw [← HQ.out] at this
        refine this.mono ?_
        rintro e w2 ⟨y, e1, h1, h2⟩
        exact ⟨y, e1, h1, hb.trans (h1.mono hb.size), h2⟩
      have HSM : Hid (∀ w' x' y', Below w9.heap.size w9 w' → Twin w' x' y' → Calls Try.prog 15 #[.pointer (some ⟨x', 0, none⟩), .pointer (some ⟨y', 0, none⟩)] w' fun q w2 => q = .returned (.bool true) ∧ Below w9.heap.size w9 w2 ∧ Below w'.heap.size w' w2) := Lib.hid fun w' x' y' hb ht => by
        refine (same_twin ht).mono ?_
        rintro q w2 ⟨e, h⟩
        exact ⟨e, hb.trans (h.mono hb.size), h⟩
      have HPE : Hid (∀ w', Below w9.heap.size w9 w' → Calls Try.prog 20 #[.pointer (some ⟨A9.d, 0, none⟩)] w' fun e w2 => Made w9 w' w2 e m ch) := Lib.hid fun w' hb => by
        refine (persisted_any w' _ 0 A9 (St.fromK ch q q) (H9.out.1.below hb (Nat.le_refl _)) (St.fromK_ok ch q q HCW.out HQ1.out HQ2.out) (by omega)).mono ?_
        rintro e w2 ⟨v, he, H⟩
        have h3 := Made.of (Below.refl _ _) he H.out.1 H.out.2
        have h4 : content (St.fromK ch q q) (fun _ => 0) (St.fromK ch q q).n = ch := by
          show content (St.fromK ch q q) (fun _ => 0) q = ch
          rw [content_from ch q q (Nat.le_refl _) HCQ.out HCW.out, List.take_of_length_le (by rw [HCQ.out]; omega)]
        rw [h4, HCL.out] at h3
        exact h3.rebaseN hb
      have HKP : Hid (∀ w', Below w9.heap.size w9 w' → (convert 22 9 (.slice A1 m c1)).run Try.prog w' = .ok (.string (bstr ch)) w') := Lib.hid fun w' hb => conv_bytes Try.underlying22 Try.underlying5 Try.underlying9 (HCR.out.below (HW9.out.trans (hb.mono HW9.out.size))) HCL.out
      have hS0 : Below w9.heap.size w9 w9 := Below.refl _ _
      have hS1 : Below w9.heap.size w9 w9.drew := hS0.drew
      have kp0 := HKP.out w9 hS0
      have kp1 := HKP.out w9.drew hS1
      clear q1 q2 q3 q4
      go_region_with (first
        | (go_at_call 20; go_must (refine (HPE.out _ (by assumption)).mono ?_); rintro e w5 ⟨D5, c5, rfl, b5, a5, K5⟩; have k5 := K5.out w5 (Below.refl _ _); have kp5 := HKP.out w5 a5)
        | (go_at_call 19; go_must (refine (HRF.out _ (by assumption)).mono ?_); rintro e w6 ⟨y, rfl, b6, a6, T6⟩; have kp6 := HKP.out w6 a6)
        | (go_at_call 15; go_must (refine (HSM.out _ _ _ (by assumption) (by exact T6.out)).mono ?_); rintro e w7 ⟨rfl, a7, b7⟩; have kp7 := HKP.out w7 a7))
      all_goals (go_wp2; go_ret; exact ⟨rfl, HW9.out.trans ((show Below w9.heap.size w9 _ by assumption).mono HW9.out.size)⟩)
  · have HNE := Lib.hid (fun w => new_bad w 5000 (.inr (by omega)))
    have hmin : min a 5000 = 5000 := by omega
    have h5 : ¬ a ≤ 5000 := by omega
    go_enter Try.func3, Try.ntmps3
    go_upto_region 11 with (first
      | (go_at_call 12; go_must (refine (awake_any _).mono ?_); rintro e w2 ⟨rfl, H2⟩; have HWX : Hid (Below W.heap.size W w2) := Lib.hid H2.out)
      | (go_at_call 13; go_must (refine (HSHORT.out _ HWX.out).mono ?_); rintro e w' ⟨rfl, hw⟩; have hw2 := hw.symm; clear hw; subst hw2)
      | (go_at_call 14; go_must (refine (HNE.out _).mono ?_); rintro e w' ⟨rfl, hw⟩; have hw2 := hw.symm; clear hw; subst hw2))
    clear HNE HSHORT h5 hmin ha
    rcases (show m % 64 ≠ 0 ∨ m = 0 ∨ ∃ q, m = 64 * q ∧ 1 ≤ q ∧ q ≤ 4096 by
      by_cases h1 : m % 64 = 0
      · by_cases h2 : m = 0
        · exact .inr (.inl h2)
        · exact .inr (.inr ⟨m / 64, by omega, by omega, by omega⟩)
      · exact .inl h1) with h64 | h64 | ⟨q, hq, hq1, hq2⟩
    · have HF := Lib.hid (dfrom_form w2 A1 m c1 h64)
      obtain ⟨rr, hrr⟩ : ∃ rr, m % 64 = rr := ⟨_, rfl⟩
      have q1 : (m : Int) % 64 = (rr : Int) := by omega
      have q2 : (m : Int).tmod 64 = (rr : Int) := by rw [Int.tmod_eq_emod_of_nonneg (by omega)]; exact q1
      have q3 : ((rr : Int) == 0) = false := by simp; omega
      have q4 : ¬ (rr : Int) = 0 := by omega
      clear h64 hrr
      go_wp2_with (go_at_call 18; go_must (refine HF.out.mono ?_); rintro e w' ⟨rfl, hw⟩; have hw2 := hw.symm; clear hw; subst hw2)
      go_ret
      exact ⟨rfl, HWX.out⟩
    · subst h64
      have HF := Lib.hid (dfrom_none w2 A1 c1)
      go_wp2_with (go_at_call 18; go_must (refine HF.out.mono ?_); rintro e w' ⟨rfl, hw⟩; have hw2 := hw.symm; clear hw; subst hw2)
      go_ret
      exact ⟨rfl, HWX.out⟩
    · have hcl : ch.length = 64 * q := by rw [HCL.out]; exact hq
      have HF := Lib.hid (dfrom_any w2 A1 m c1 W.heap.size q ch HCL.out hq hq1 hq2 hmc HM1.out (HCR.out.below HWX.out) HWX.out.size HCW.out)
      have q1 : (m : Int) % 64 = 0 := by omega
      have q2 : (m : Int).tmod 64 = 0 := by rw [Int.tmod_eq_emod_of_nonneg (by omega)]; exact q1
      have q3 : ((m : Int) == 0) = false := by simp; omega
      have q4 : ¬ (m : Int) = 0 := by omega
      have HQ := Lib.hid hq
      have HQ1 := Lib.hid hq1
      have HQ2 := Lib.hid hq2
      have HCQ := Lib.hid hcl
      clear hcl hq hq1 hq2
      go_upto_region 16 with (go_at_call 18; go_must (refine HF.out.mono ?_); rintro e w9 ⟨A9, rfl, H9⟩)
      have HW9 : Hid (Below W.heap.size W w9) := Lib.hid (HWX.out.trans (H9.out.2.mono HWX.out.size))
      have HRF : Hid (∀ w', Below w9.heap.size w9 w' → Calls Try.prog 19 #[.slice A1 m c1] w' fun e w2 => ∃ y, e = .returned (.pointer (some ⟨y, 0, none⟩)) ∧ Below w'.heap.size w' w2 ∧ Below w9.heap.size w9 w2 ∧ Hid (Twin w2 A9.d y)) := Lib.hid fun w' hb => by
        have hW := HW9.out.trans (hb.mono HW9.out.size)
        have := from_twin w' A1 c1 q A9.d W.heap.size ch HCQ.out HQ1.out HQ2.out (HCR.out.below hW) hW.size HCW.out ⟨A9, rfl, (H9.out.1.mono (Nat.zero_le _)).below hb (Nat.le_refl _)⟩
        rw [← HQ.out] at this
        refine this.mono ?_
        rintro e w2 ⟨y, e1, h1, h2⟩
        exact ⟨y, e1, h1, hb.trans (h1.mono hb.size), h2⟩
      have HSM : Hid (∀ w' x' y', Below w9.heap.size w9 w' → Twin w' x' y' → Calls Try.prog 15 #[.pointer (some ⟨x', 0, none⟩), .pointer (some ⟨y', 0, none⟩)] w' fun q w2 => q = .returned (.bool true) ∧ Below w9.heap.size w9 w2 ∧ Below w'.heap.size w' w2) := Lib.hid fun w' x' y' hb ht => by
        refine (same_twin ht).mono ?_
        rintro q w2 ⟨e, h⟩
        exact ⟨e, hb.trans (h.mono hb.size), h⟩
      have HPE : Hid (∀ w', Below w9.heap.size w9 w' → Calls Try.prog 20 #[.pointer (some ⟨A9.d, 0, none⟩)] w' fun e w2 => Made w9 w' w2 e m ch) := Lib.hid fun w' hb => by
        refine (persisted_any w' _ 0 A9 (St.fromK ch q q) (H9.out.1.below hb (Nat.le_refl _)) (St.fromK_ok ch q q HCW.out HQ1.out HQ2.out) (by omega)).mono ?_
        rintro e w2 ⟨v, he, H⟩
        have h3 := Made.of (Below.refl _ _) he H.out.1 H.out.2
        have h4 : content (St.fromK ch q q) (fun _ => 0) (St.fromK ch q q).n = ch := by
          show content (St.fromK ch q q) (fun _ => 0) q = ch
          rw [content_from ch q q (Nat.le_refl _) HCQ.out HCW.out, List.take_of_length_le (by rw [HCQ.out]; omega)]
        rw [h4, HCL.out] at h3
        exact h3.rebaseN hb
      have HKP : Hid (∀ w', Below w9.heap.size w9 w' → (convert 22 9 (.slice A1 m c1)).run Try.prog w' = .ok (.string (bstr ch)) w') := Lib.hid fun w' hb => conv_bytes Try.underlying22 Try.underlying5 Try.underlying9 (HCR.out.below (HW9.out.trans (hb.mono HW9.out.size))) HCL.out
      have hS0 : Below w9.heap.size w9 w9 := Below.refl _ _
      have hS1 : Below w9.heap.size w9 w9.drew := hS0.drew
      have kp0 := HKP.out w9 hS0
      have kp1 := HKP.out w9.drew hS1
      clear q1 q2 q3 q4
      go_region_with (first
        | (go_at_call 20; go_must (refine (HPE.out _ (by assumption)).mono ?_); rintro e w5 ⟨D5, c5, rfl, b5, a5, K5⟩; have k5 := K5.out w5 (Below.refl _ _); have kp5 := HKP.out w5 a5)
        | (go_at_call 19; go_must (refine (HRF.out _ (by assumption)).mono ?_); rintro e w6 ⟨y, rfl, b6, a6, T6⟩; have kp6 := HKP.out w6 a6)
        | (go_at_call 15; go_must (refine (HSM.out _ _ _ (by assumption) (by exact T6.out)).mono ?_); rintro e w7 ⟨rfl, a7, b7⟩; have kp7 := HKP.out w7 a7))
      all_goals (go_wp2; go_ret; exact ⟨rfl, HW9.out.trans ((show Below w9.heap.size w9 _ by assumption).mono HW9.out.size)⟩)
  · have hmin : min (k : Int) 5000 = (k : Int) := by omega
    have h5 : (k : Int) ≤ 5000 := by omega
    have hk0 : ¬ (k : Int) < 1 := by omega
    have hk4 : ¬ (4096 : Int) < (k : Int) := by omega
    have HNE := Lib.hid (fun w => new_any w k hk1 hk2)
    have HTO := Lib.hid (fun w d (t : Int) (ht : t < 0 ∨ 8 ≤ t) => thread_out w d t ht)
    clear hk1 hk2
    have HK1 : Hid (1 ≤ k ∧ k ≤ 4096) := Lib.hid (by omega)
    go_enter Try.func3, Try.ntmps3
    go_upto_region 11 with (first
      | (go_at_call 12; go_must (refine (awake_any _).mono ?_); rintro e w2 ⟨rfl, H2⟩; have HW2 : Hid (Below W.heap.size W w2) := Lib.hid H2.out)
      | (go_at_call 13; go_must (refine (HSHORT.out _ HW2.out).mono ?_); rintro e w' ⟨rfl, hw⟩; have hw2 := hw.symm; clear hw; subst hw2)
      | (go_at_call 14; go_must (refine (HNE.out _).mono ?_); rintro e w3 ⟨A3, rfl, H3⟩)
      | (go_at_call 16; go_must (refine (new_twin w3 A3.d k HK1.out.1 HK1.out.2 ⟨A3, rfl, H3.out.1.mono (Nat.zero_le _)⟩).mono ?_); rintro e w4 ⟨y, rfl, b4, T4⟩; have HB4 := Lib.hid b4; clear b4)
      | (go_at_call 15; go_must (refine (same_twin T4.out).mono ?_); rintro e w8 ⟨rfl, b8⟩; have HWX : Hid (Below W.heap.size W w8) := Lib.hid (HW2.out.trans ((H3.out.2.trans ((HB4.out.trans (b8.mono HB4.out.size)).mono H3.out.2.size)).mono HW2.out.size)); clear b8)
      | (go_at_call 17; go_must (refine (HTO.out _ _ _ (by omega)).mono ?_); rintro e w' ⟨rfl, hw⟩; have hw2 := hw.symm; clear hw; subst hw2))
    clear hmin hk0 hk4 HNE HSHORT
    rcases (show m % 64 ≠ 0 ∨ m = 0 ∨ ∃ q, m = 64 * q ∧ 1 ≤ q ∧ q ≤ 4096 by
      by_cases h1 : m % 64 = 0
      · by_cases h2 : m = 0
        · exact .inr (.inl h2)
        · exact .inr (.inr ⟨m / 64, by omega, by omega, by omega⟩)
      · exact .inl h1) with h64 | h64 | ⟨q, hq, hq1, hq2⟩
    · have HF := Lib.hid (dfrom_form w8 A1 m c1 h64)
      obtain ⟨rr, hrr⟩ : ∃ rr, m % 64 = rr := ⟨_, rfl⟩
      have q1 : (m : Int) % 64 = (rr : Int) := by omega
      have q2 : (m : Int).tmod 64 = (rr : Int) := by rw [Int.tmod_eq_emod_of_nonneg (by omega)]; exact q1
      have q3 : ((rr : Int) == 0) = false := by simp; omega
      have q4 : ¬ (rr : Int) = 0 := by omega
      clear h64 hrr
      go_wp2_with (go_at_call 18; go_must (refine HF.out.mono ?_); rintro e w' ⟨rfl, hw⟩; have hw2 := hw.symm; clear hw; subst hw2)
      go_ret
      exact ⟨rfl, HWX.out⟩
    · subst h64
      have HF := Lib.hid (dfrom_none w8 A1 c1)
      go_wp2_with (go_at_call 18; go_must (refine HF.out.mono ?_); rintro e w' ⟨rfl, hw⟩; have hw2 := hw.symm; clear hw; subst hw2)
      go_ret
      exact ⟨rfl, HWX.out⟩
    · have hcl : ch.length = 64 * q := by rw [HCL.out]; exact hq
      have HF := Lib.hid (dfrom_any w8 A1 m c1 W.heap.size q ch HCL.out hq hq1 hq2 hmc HM1.out (HCR.out.below HWX.out) HWX.out.size HCW.out)
      have q1 : (m : Int) % 64 = 0 := by omega
      have q2 : (m : Int).tmod 64 = 0 := by rw [Int.tmod_eq_emod_of_nonneg (by omega)]; exact q1
      have q3 : ((m : Int) == 0) = false := by simp; omega
      have q4 : ¬ (m : Int) = 0 := by omega
      have HQ := Lib.hid hq
      have HQ1 := Lib.hid hq1
      have HQ2 := Lib.hid hq2
      have HCQ := Lib.hid hcl
      clear hcl hq hq1 hq2
      go_upto_region 16 with (go_at_call 18; go_must (refine HF.out.mono ?_); rintro e w9 ⟨A9, rfl, H9⟩)
      have HW9 : Hid (Below W.heap.size W w9) := Lib.hid (HWX.out.trans (H9.out.2.mono HWX.out.size))
      have HRF : Hid (∀ w', Below w9.heap.size w9 w' → Calls Try.prog 19 #[.slice A1 m c1] w' fun e w2 => ∃ y, e = .returned (.pointer (some ⟨y, 0, none⟩)) ∧ Below w'.heap.size w' w2 ∧ Below w9.heap.size w9 w2 ∧ Hid (Twin w2 A9.d y)) := Lib.hid fun w' hb => by
        have hW := HW9.out.trans (hb.mono HW9.out.size)
        have := from_twin w' A1 c1 q A9.d W.heap.size ch HCQ.out HQ1.out HQ2.out (HCR.out.below hW) hW.size HCW.out ⟨A9, rfl, (H9.out.1.mono (Nat.zero_le _)).below hb (Nat.le_refl _)⟩
        rw [← HQ.out] at this
        refine this.mono ?_
        rintro e w2 ⟨y, e1, h1, h2⟩
        exact ⟨y, e1, h1, hb.trans (h1.mono hb.size), h2⟩
      have HSM : Hid (∀ w' x' y', Below w9.heap.size w9 w' → Twin w' x' y' → Calls Try.prog 15 #[.pointer (some ⟨x', 0, none⟩), .pointer (some ⟨y', 0, none⟩)] w' fun q w2 => q = .returned (.bool true) ∧ Below w9.heap.size w9 w2 ∧ Below w'.heap.size w' w2) := Lib.hid fun w' x' y' hb ht => by
        refine (same_twin ht).mono ?_
        rintro q w2 ⟨e, h⟩
        exact ⟨e, hb.trans (h.mono hb.size), h⟩
      have HPE : Hid (∀ w', Below w9.heap.size w9 w' → Calls Try.prog 20 #[.pointer (some ⟨A9.d, 0, none⟩)] w' fun e w2 => Made w9 w' w2 e m ch) := Lib.hid fun w' hb => by
        refine (persisted_any w' _ 0 A9 (St.fromK ch q q) (H9.out.1.below hb (Nat.le_refl _)) (St.fromK_ok ch q q HCW.out HQ1.out HQ2.out) (by omega)).mono ?_
        rintro e w2 ⟨v, he, H⟩
        have h3 := Made.of (Below.refl _ _) he H.out.1 H.out.2
        have h4 : content (St.fromK ch q q) (fun _ => 0) (St.fromK ch q q).n = ch := by
          show content (St.fromK ch q q) (fun _ => 0) q = ch
          rw [content_from ch q q (Nat.le_refl _) HCQ.out HCW.out, List.take_of_length_le (by rw [HCQ.out]; omega)]
        rw [h4, HCL.out] at h3
        exact h3.rebaseN hb
      have HKP : Hid (∀ w', Below w9.heap.size w9 w' → (convert 22 9 (.slice A1 m c1)).run Try.prog w' = .ok (.string (bstr ch)) w') := Lib.hid fun w' hb => conv_bytes Try.underlying22 Try.underlying5 Try.underlying9 (HCR.out.below (HW9.out.trans (hb.mono HW9.out.size))) HCL.out
      have hS0 : Below w9.heap.size w9 w9 := Below.refl _ _
      have hS1 : Below w9.heap.size w9 w9.drew := hS0.drew
      have kp0 := HKP.out w9 hS0
      have kp1 := HKP.out w9.drew hS1
      clear q1 q2 q3 q4
      go_region_with (first
        | (go_at_call 20; go_must (refine (HPE.out _ (by assumption)).mono ?_); rintro e w5 ⟨D5, c5, rfl, b5, a5, K5⟩; have k5 := K5.out w5 (Below.refl _ _); have kp5 := HKP.out w5 a5)
        | (go_at_call 19; go_must (refine (HRF.out _ (by assumption)).mono ?_); rintro e w6 ⟨y, rfl, b6, a6, T6⟩; have kp6 := HKP.out w6 a6)
        | (go_at_call 15; go_must (refine (HSM.out _ _ _ (by assumption) (by exact T6.out)).mono ?_); rintro e w7 ⟨rfl, a7, b7⟩; have kp7 := HKP.out w7 a7))
      all_goals (go_wp2; go_ret; exact ⟨rfl, HW9.out.trans ((show Below w9.heap.size w9 _ by assumption).mono HW9.out.size)⟩)
end Go.Proofs.Ytbonponclcehiaa.Dev
namespace Go.Proofs.Ytbonponclcehiaa.deviceNews
open Go.ChangeShapes Go.WideShapes Go.ChangeAt Go.RowKit Go.Proofs.Ytbonponclcehiaa.Law Go.Proofs.Ytbonponclcehiaa.Args
set_option linter.unusedVariables false
set_option linter.unusedSimpArgs false
open Go.Proofs.Ytbonponclcehiaa.Mem Go.Proofs.Ytbonponclcehiaa.Own Go.Proofs.Ytbonponclcehiaa.Dev
theorem walk (W : World) (a : Int) (_ : (Lit.int .i64 a).wf = true) (A1 : Option Addr) (n1 c1 : Nat) (z1 : List Int) (l1 : z1.length = n1) (b1 : n1 ≤ c1) (m1 : c1 ≤ maxLen) (_ : c1 * 1 ≤ 140737488351232) (r1 : IntsAt .u8 W W.heap.size A1 z1) (w1 : ∀ z ∈ z1, (Lit.int .u8 z).wf = true) :
    Calls Try.prog 3 #[.int .i64 a, .slice A1 n1 c1] W fun e W' => e = .returned (.bool true) ∧ Below W.heap.size W W' := news_walk W a A1 n1 c1 z1 l1 b1 m1 r1 w1

/-! ### the frame -/
theorem cells5 : Try.prog.cellsOf 5 = 1 := by kernel_rfl
theorem own : ownKnob Try.prog.godebug = none := by kernel_rfl
set_option maxRecDepth 100000 in
theorem calls {H : Type} {enc : TypeId × Value → H} (W : World) (base : Nat) (args : Array Value) (ds : List (DataW H)) (p : List MemPlace)
    (hval0 : ∀ (j : Nat) t v, Try.f3.params[j]? = some t → args[j]? = some v → Value.okWide Try.prog W .any base t v)
    (hA : DataW.TrodAll enc Try.prog W 0 (fun _ => true) true Try.f3.params.toList args.toList ds p) (_ : W.noneFrozen p)
    (hsz : (DataW.weightsEach Try.prog Try.f3.params.toList ds).all (· ≤ reachBytes) = true) :
    Calls Try.prog 3 args W fun e W' => e = .returned (.bool true) ∧ Below W.heap.size W W' := by
  have hval : ∀ (j : Nat) t v, Try.f3.params[j]? = some t → args[j]? = some v → Value.okWide Try.prog W .any base t v := hval0
  clear hval0
  rw [Try.params3] at hA hval hsz
  obtain ⟨v0, vs0, d0, ds0, p0, q0, hargs, rfl, rfl, h0, r'0⟩ := trodAll_cons hA
  obtain ⟨v1, vs1, d1, ds1, p1, q1, rfl, rfl, rfl, h1, r'1⟩ := trodAll_cons r'0
  obtain ⟨rfl, rfl, rfl⟩ := trodAll_nil r'1
  obtain rfl : args = #[v0, v1] := by cases args; simp_all
  obtain ⟨a0, rfl, rfl, rfl, w0⟩ := open_int Try.underlying3 (hval 0 3 v0 rfl rfl) h0
  obtain ⟨A1, n1, c1, z1, rfl, l1, b1, m1, s1, r1, w1⟩ := open_slice_ints (j := 1) (bytes := 1) Try.underlying22 Try.underlying5 cells5 (by kernel_rfl) (hval 1 22 v1 rfl rfl) h1 hsz rfl rfl
  exact walk (W := W) a0 w0 A1 n1 c1 z1 l1 b1 m1 s1 r1 w1
set_option maxRecDepth 100000 in
theorem lifted (os : Os) (started : os.Started) (H : Type) (enc : TypeId × Value → H) :
    ReturnsInHanded {} Try.checked os 3 .any (Rows.deviceNewsSpec.pre6 enc Try.prog Try.f3 Rows.deviceNewsRow.domain false) (Rows.deviceNewsSpec.post enc Try.prog Try.f3 false true false false) :=
  law_lifted (C := Try.checked) (s := Rows.deviceNewsSpec) (b := 4) own (by kernel_rfl) Try.func3 (by kernel_rfl) (by kernel_rfl) rfl Try.underlying4 rfl
    (fun ds h => by match ds, h with | [_, _], _ => rfl) calls os started
    (ChangeSpec.witness6 (enc := enc) (C := Try.checked) false ⟨#[], #[.int .i64 0, .slice none 0 0], []⟩ 8 (by kernel_rfl) (by kernel_rfl) (by kernel_rfl) (by kernel_rfl))
/-- ████ THE STATEMENT ████ -/
theorem proved : Rows.DeviceNewsSaid :=
  OpenClaim.holds_of_wide 3 Try.f3 rfl rfl rfl rfl rfl rfl rfl ⟨rfl, rfl, rfl, rfl, rfl⟩ rfl rfl rfl rfl rfl (by kernel_rfl) Try.func3 (by kernel_rfl)
    (of_decide_eq_true (by kernel_rfl)) (by unfold Func.isWrapper; first | (rw [if_pos (by decide +kernel)]; kernel_rfl) | (rw [if_neg (by decide +kernel)]; exact ⟨rfl, rfl⟩))
    (fun os started H enc _ => lifted os started H enc)
#print axioms proved
end Go.Proofs.Ytbonponclcehiaa.deviceNews
