/-
  SCHED, THE REFERENCE: need, done, step.
-/
import Derived.Test.YthnaogfcffmphaaSMach
set_option linter.unusedVariables false
set_option linter.unusedSimpArgs false
namespace Go.Proofs.Ythnaogfcffmphaa.Sched
open Go.ChangeShapes Go.WideShapes Go.ChangeAt Go.RowKit Go.Proofs.Ythnaogfcffmphaa.Mem Go.Proofs.Ythnaogfcffmphaa.Law Go.Proofs.Ythnaogfcffmphaa.Args Go.Proofs.Ythnaogfcffmphaa.Own
theorem need_any (z : Int) (w : World) :
    Calls Try.prog 49 #[.int .i64 z] w fun e w' => e = .returned (.int .i64 (need z : Int)) ∧ w = w' := by
  by_cases h : z < 1
  · have HN := Lib.hid (need_one h)
    go_enter Try.func49, Try.ntmps49
    go_wp2
    go_ret
    exact ⟨ret_int (by rw [HN.out]; rfl), rfl⟩
  · have HN := Lib.hid (need_more (show 1 ≤ z by omega))
    go_enter Try.func49, Try.ntmps49
    go_wp2
    go_ret
    exact ⟨ret_int (by rw [HN.out]), rfl⟩
theorem count_take {l : List Int} {k : Nat} (h : k < l.length) (m : Int) : (l.take (k + 1)).count m = (l.take k).count m + if l.getD k 0 = m then 1 else 0 := by
  rw [List.take_succ_eq_append_getElem h, List.count_append, getD_at h]
  by_cases e : l[k] = m
  · simp [e]
  · simp [e]
set_option maxRecDepth 100000 in
theorem done_any (w : World) (A A' : Option Addr) (n c B n' c' : Nat) (zs : List Int) (m : Int) (hn : n ≤ 1000000) (hl : zs.length = n) (hr : Hid (IntsAt .i64 w B A zs)) (hB : B ≤ w.heap.size) :
    Calls Try.prog 48 #[.agg #[.slice A n c, .slice A' n' c'], .int .i64 m] w fun e w' => e = .returned (.int .i64 (zs.count m : Int)) ∧ Hid (Below w.heap.size w w') := by
  have HL := Lib.hid hl
  have hn63 : n ≤ 9223372036854775807 := by omega
  have HR2 : Hid (IntsAt .i64 (w.alloc (.cells #[.slice A n c, .slice A' n' c'] 31)) B A zs) := Lib.hid (hr.out.below ((Below.refl _ _).alloc hB _))
  have HBEL : Hid (Below w.heap.size w (w.alloc (.cells #[.slice A n c, .slice A' n' c'] 31))) := Lib.hid ((Below.refl _ _).alloc (Nat.le_refl _) _)
  have BL := Blk.newOf w #[.slice A n c, .slice A' n' c'] 31 (n := 2) (g := fun o => if o = 0 then .slice A n c else .slice A' n' c') rfl (fun o ho => by
    rcases o with _ | _ | o
    · rfl
    · rfl
    · omega)
  have l0 := BL.cell (o := 0) (by omega)
  simp only [if_pos rfl] at l0
  clear hl BL
  go_enter Try.func48, Try.ntmps48
  go_wp2
  generalize w.alloc (.cells #[.slice A n c, .slice A' n' c'] 31) = wa at *
  go_loop [5, 6] (fun t i => ∃ k : Nat, k ≤ n ∧ i = .int .i64 k ∧ t = .int .i64 ((zs.take k).count m : Int)) (fun _ i => n - (intOf i).toNat)
  case atStart => exact ⟨0, by omega, rfl, by simp⟩
  case round =>
    obtain ⟨k, hk, rfl, rfl⟩ := hrel
    by_cases hkn : k < n
    · have hki : (k : Int) < (n : Int) := by omega
      have hk0 : (0 : Int) ≤ (k : Int) := by omega
      have hkl : k < zs.length := by have := HL.out; omega
      have hct := count_take hkl m
      have hcl : (zs.take k).count m ≤ k := Nat.le_trans List.count_le_length (List.length_take_le _ _)
      obtain ⟨cn, hcn⟩ : ∃ cn, (zs.take k).count m = cn := ⟨_, rfl⟩
      rw [hcn] at hct hcl ⊢
      obtain ⟨ad, rfl, _, hc⟩ := HR2.out k hkl
      by_cases he : zs.getD k 0 = m
      · rw [he] at hc
        rw [if_pos he] at hct
        have HCT := Lib.hid hct
        clear hct hcn he hkl
        go_wp2
        go_round
        case rel => exact ⟨k + 1, by omega, by go_num, by rw [HCT.out]; go_num⟩
        case measure => simp [intOf]; omega
      · rw [if_neg he] at hct
        obtain ⟨z, hz⟩ : ∃ z, zs.getD k 0 = z := ⟨_, rfl⟩
        rw [hz] at he hc
        have HCT := Lib.hid hct
        clear hct hcn hz hkl
        go_wp2
        go_round
        case rel => exact ⟨k + 1, by omega, by go_num, by rw [HCT.out]; go_num⟩
        case measure => simp [intOf]; omega
    · have hk2 : k = n := by omega
      subst hk2
      have HT := Lib.hid (List.take_of_length_le (Nat.le_of_eq HL.out))
      go_wp2
      go_ret
      exact ⟨ret_int (by rw [HT.out]), HBEL⟩
end Go.Proofs.Ythnaogfcffmphaa.Sched
