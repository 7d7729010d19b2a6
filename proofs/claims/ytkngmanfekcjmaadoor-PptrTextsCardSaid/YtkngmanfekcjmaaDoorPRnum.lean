/-
  CONTRACT: the reference's 'number'.
-/
import Derived.Test.YtkngmanfekcjmaaDoorPParse
set_option linter.unusedVariables false
set_option linter.unusedSimpArgs false
namespace Go.Proofs.YtkngmanfekcjmaaDoor.Base
open Go.ChangeShapes Go.WideShapes Go.ChangeAt Go.RowKit Go.Sort Go.Lib Go.Proofs.YtkngmanfekcjmaaDoor.PM
theorem val_lt (l : List UInt8) (hd : ∀ c ∈ l, dig c) : val l < 10 ^ l.length := by
  suffices h : ∀ n (l : List UInt8), l.length = n → (∀ c ∈ l, dig c) → val l < 10 ^ n from h l.length l rfl hd
  intro n
  induction n with
  | zero => intro l h _; rw [List.eq_nil_of_length_eq_zero h]; decide
  | succ n ih =>
    intro l hl hd
    have hne : l ≠ [] := by intro h; rw [h] at hl; simp at hl
    obtain ⟨l', c, rfl⟩ : ∃ l' c, l = l' ++ [c] := ⟨l.dropLast, l.getLast hne, (List.dropLast_concat_getLast hne).symm⟩
    have hc : dig c := hd c (by simp)
    have i := ih l' (by simpa using hl) (fun x hx => hd x (by simp [hx]))
    have hv : val (l' ++ [c]) = 10 * val l' + (c.toNat - 48) := valA_snoc 0 l' c
    unfold dig at hc
    rw [hv, Nat.pow_succ]; omega
theorem idx_str (l : List UInt8) (i : Nat) (hi : i < l.length) (w : World) :
    (Instr.index 9 (.string ⟨l.toArray⟩) (.int .i64 (i : Int))).run Tryd.prog w = .ok (.int .u8 ((l.getD i 0).toNat : Int)) w := by
  rw [run_index_string w 9 ⟨l.toArray⟩ .i64 _ Tryd.underlying9, dif_pos ⟨by omega, by rw [str_size]; omega⟩]
  have e : ((i : Int)).toNat = i := by omega
  simp only [e]
  rw [Lib.getD_at ⟨l.toArray⟩ i (by rw [str_size]; exact hi)]
theorem ba_of (x : ByteArray) (l : List UInt8) (h : x.data.toList = l) : x = ⟨l.toArray⟩ := by
  obtain ⟨⟨y⟩⟩ := x
  simp at h
  rw [h]
theorem slice_str (l : List UInt8) (i : Nat) (hi : i ≤ l.length) (w : World) :
    (Instr.slice 9 (.string ⟨l.toArray⟩) (some (.int .i64 (i : Int))) none none).run Tryd.prog w = .ok (.string ⟨(l.drop i).toArray⟩) w := by
  have hs := str_size l
  have h1 : (0 : Int) ≤ (i : Int) := by omega
  have h2 : (i : Int) ≤ ((⟨l.toArray⟩ : ByteArray).size : Int) := by omega
  have := run_slice_string_l (P := Tryd.prog) (w := w) (t := 9) (s := ⟨l.toArray⟩) Tryd.underlying9 .i64 (i : Int) h1 h2
  rw [this]
  have e : ((i : Int)).toNat = i := by omega
  rw [e, ba_of ((⟨l.toArray⟩ : ByteArray).extract i (⟨l.toArray⟩ : ByteArray).size) (l.drop i) (by rw [Lib.extract_data, hs]; simp [List.take_of_length_le])]
def numOk (l : List UInt8) (k : Nat) : Bool := decide (0 < k) && (decide (k = 1) || decide (l.getD 0 0 ≠ 48))
structure NumAt (l : List UInt8) (k : Nat) : Prop where
  le : k ≤ 11
  len : k ≤ l.length
  digs : ∀ c ∈ l.take k, dig c
  stop : k = l.length ∨ k = 11 ∨ ¬ dig (l.getD k 0)
theorem numOk_two (l : List UInt8) (k : Nat) (h : 2 ≤ k) : numOk l k = !(((l.getD 0 0).toNat : Int) == 48) := by
  unfold numOk
  by_cases hz : l.getD 0 0 = 48
  · rw [hz]
    have h3 : ¬ k = 1 := by omega
    simp [h3]
  · have hn : ¬ (l.getD 0 0).toNat = 48 := fun e => hz (UInt8.toNat_inj.1 e)
    have h1 : (((l.getD 0 0).toNat : Int) == 48) = false := by rw [beq_eq_false_iff_ne]; omega
    have h2 : decide (l.getD 0 0 ≠ 48) = true := decide_eq_true hz
    rw [h1, h2]
    simp; omega
set_option maxHeartbeats 1600000 in
set_option maxRecDepth 100000 in
theorem number_any (l : List UInt8) (w : World) (hl : l.length ≤ 4294967295) :
    Calls Tryd.prog 37 #[str l] w fun e w' => ∃ k, Hid (NumAt l k) ∧ e = .returned (.tuple #[.int .u64 (val (l.take k) : Nat), str (l.drop k), .bool (numOk l k)]) ∧ Below w.heap.size w w' := by
  have hs := str_size l
  go_enter Tryd.func37, Tryd.ntmps37
  go_wp2
  go_loop [5, 6] (fun vn vk => ∃ k : Nat, k ≤ 11 ∧ k ≤ l.length ∧ vn = .int .u64 (val (l.take k) : Nat) ∧ vk = .int .i64 (k : Int) ∧ Hid (∀ c ∈ l.take k, dig c)) (fun _ vk => (11 - RowKit.intOf vk).toNat)
  case atStart => exact ⟨0, by omega, by omega, rfl, rfl, Lib.hid (by simp)⟩
  case round =>
    obtain ⟨k, hk, hkl, rfl, rfl, HD⟩ := hrel
    have hv := val_lt (l.take k) HD.out
    have hp : 10 ^ (l.take k).length ≤ 10 ^ 11 := Nat.pow_le_pow_right (by decide) (by rw [List.length_take]; omega)
    have hv2 : val (l.take k) < 100000000000 := by omega
    clear hv hp
    have hsl := fun w => slice_str l k hkl w
    by_cases h1 : k < l.length
    · have hx := fun w => idx_str l k h1 w
      obtain ⟨c, hc⟩ : ∃ c : Nat, (l.getD k 0).toNat = c := ⟨_, rfl⟩
      have hcd : Hid (dig (l.getD k 0) ↔ 48 ≤ c ∧ c ≤ 57) := Lib.hid (by unfold dig; rw [hc])
      have hc8 : c < 256 := by have := (l.getD k 0).toNat_lt; omega
      have ht : l.take (k + 1) = l.take k ++ [l.getD k 0] := by
        rw [List.take_add_one, List.getElem?_eq_getElem h1, List.getD, List.getElem?_eq_getElem h1]; rfl
      have hv3 : Hid (val (l.take (k + 1)) = 10 * val (l.take k) + (c - 48)) := Lib.hid (by rw [ht, val, valA_snoc, hc])
      have HT := Lib.hid ht
      rw [hc] at hx
      clear hc ht
      by_cases h2 : k < 11
      · by_cases h3 : 48 ≤ c ∧ c ≤ 57
        · have HX := Lib.hid (hcd.out.2 h3)
          obtain ⟨h3, h4⟩ := h3
          go_wp2
          go_round
          case rel =>
            refine ⟨k + 1, by omega, by omega, ?_, by go_num, Lib.hid ?_⟩
            · rw [hv3.out]; congr 1; omega
            · rw [HT.out]
              intro x hx
              rcases List.mem_append.1 hx with hx | hx
              · exact HD.out x hx
              · rw [List.mem_singleton.1 hx]; exact HX.out
          case measure => simp [RowKit.intOf]; omega
        · have HX := Lib.hid (fun hd => h3 (hcd.out.1 hd))
          by_cases h4 : 48 ≤ c
          · have h5 : ¬ c ≤ 57 := fun h => h3 ⟨h4, h⟩
            clear h3
            have HEXIT : Hid (NumAt l k) := Lib.hid ⟨hk, hkl, HD.out, .inr (.inr HX.out)⟩
            rcases (show k = 0 ∨ k = 1 ∨ 2 ≤ k by omega) with k0 | k1 | k2
            · have hk0 : ¬ 0 < k := by omega
              have HN : Hid (numOk l k = false) := Lib.hid (by unfold numOk; simp; omega)
              clear k0
              go_wp2
              go_quiet (fail)
              go_wp2
              go_ret3
              exact ⟨k, HEXIT, by rw [HN.out]; exact rfl, Go.Proofs.YtkngmanfekcjmaaDoor.Law.below_draws (Below.refl _ _) _⟩
            · have hk0 : 0 < k := by omega
              have hk1 : ((k : Int) == 1) = true := by rw [beq_iff_eq]; omega
              have HN : Hid (numOk l k = true) := Lib.hid (by unfold numOk; simp; omega)
              clear k1
              go_wp2
              go_quiet (fail)
              go_wp2
              go_ret3
              exact ⟨k, HEXIT, by rw [HN.out]; exact rfl, Go.Proofs.YtkngmanfekcjmaaDoor.Law.below_draws (Below.refl _ _) _⟩
            · have hk0 : 0 < k := by omega
              have hk1 : ((k : Int) == 1) = false := by rw [beq_eq_false_iff_ne]; omega
              have hx0 : ∀ w, (Instr.index 9 (.string ⟨l.toArray⟩) (.int .i64 0)).run Tryd.prog w = .ok (.int .u8 ((l.getD 0 0).toNat : Int)) w := fun w => idx_str l 0 (by omega) w
              have HN := Lib.hid (numOk_two l k k2)
              generalize (l.getD 0 0).toNat = c0 at hx0 HN
              clear k2
              go_wp2
              go_quiet (fail)
              go_wp2
              go_ret3
              exact ⟨k, HEXIT, by rw [HN.out]; exact rfl, Go.Proofs.YtkngmanfekcjmaaDoor.Law.below_draws (Below.refl _ _) _⟩
          · clear h3
            have HEXIT : Hid (NumAt l k) := Lib.hid ⟨hk, hkl, HD.out, .inr (.inr HX.out)⟩
            rcases (show k = 0 ∨ k = 1 ∨ 2 ≤ k by omega) with k0 | k1 | k2
            · have hk0 : ¬ 0 < k := by omega
              have HN : Hid (numOk l k = false) := Lib.hid (by unfold numOk; simp; omega)
              clear k0
              go_wp2
              go_quiet (fail)
              go_wp2
              go_ret3
              exact ⟨k, HEXIT, by rw [HN.out]; exact rfl, Go.Proofs.YtkngmanfekcjmaaDoor.Law.below_draws (Below.refl _ _) _⟩
            · have hk0 : 0 < k := by omega
              have hk1 : ((k : Int) == 1) = true := by rw [beq_iff_eq]; omega
              have HN : Hid (numOk l k = true) := Lib.hid (by unfold numOk; simp; omega)
              clear k1
              go_wp2
              go_quiet (fail)
              go_wp2
              go_ret3
              exact ⟨k, HEXIT, by rw [HN.out]; exact rfl, Go.Proofs.YtkngmanfekcjmaaDoor.Law.below_draws (Below.refl _ _) _⟩
            · have hk0 : 0 < k := by omega
              have hk1 : ((k : Int) == 1) = false := by rw [beq_eq_false_iff_ne]; omega
              have hx0 : ∀ w, (Instr.index 9 (.string ⟨l.toArray⟩) (.int .i64 0)).run Tryd.prog w = .ok (.int .u8 ((l.getD 0 0).toNat : Int)) w := fun w => idx_str l 0 (by omega) w
              have HN := Lib.hid (numOk_two l k k2)
              generalize (l.getD 0 0).toNat = c0 at hx0 HN
              clear k2
              go_wp2
              go_quiet (fail)
              go_wp2
              go_ret3
              exact ⟨k, HEXIT, by rw [HN.out]; exact rfl, Go.Proofs.YtkngmanfekcjmaaDoor.Law.below_draws (Below.refl _ _) _⟩
      · clear hx
        have HEXIT : Hid (NumAt l k) := Lib.hid ⟨hk, hkl, HD.out, .inr (.inl (by omega))⟩
        have k2 : 2 ≤ k := by omega
        have hk0 : 0 < k := by omega
        have hk1 : ((k : Int) == 1) = false := by rw [beq_eq_false_iff_ne]; omega
        have hx0 : ∀ w, (Instr.index 9 (.string ⟨l.toArray⟩) (.int .i64 0)).run Tryd.prog w = .ok (.int .u8 ((l.getD 0 0).toNat : Int)) w := fun w => idx_str l 0 (by omega) w
        have HN := Lib.hid (numOk_two l k k2)
        generalize (l.getD 0 0).toNat = c0 at hx0 HN
        clear k2
        go_wp2
        go_quiet (fail)
        go_wp2
        go_ret3
        exact ⟨k, HEXIT, by rw [HN.out]; exact rfl, Go.Proofs.YtkngmanfekcjmaaDoor.Law.below_draws (Below.refl _ _) _⟩
    · have hl2 : ¬ ((k : Int) < (l.length : Int)) := by omega
      have HEXIT : Hid (NumAt l k) := Lib.hid ⟨hk, hkl, HD.out, .inl (by omega)⟩
      rcases (show k = 0 ∨ k = 1 ∨ 2 ≤ k by omega) with k0 | k1 | k2
      · have hk0 : ¬ 0 < k := by omega
        have HN : Hid (numOk l k = false) := Lib.hid (by unfold numOk; simp; omega)
        clear k0
        go_wp2
        go_quiet (fail)
        go_wp2
        go_ret3
        exact ⟨k, HEXIT, by rw [HN.out]; exact rfl, Go.Proofs.YtkngmanfekcjmaaDoor.Law.below_draws (Below.refl _ _) _⟩
      · have hk0 : 0 < k := by omega
        have hk1 : ((k : Int) == 1) = true := by rw [beq_iff_eq]; omega
        have HN : Hid (numOk l k = true) := Lib.hid (by unfold numOk; simp; omega)
        clear k1
        go_wp2
        go_quiet (fail)
        go_wp2
        go_ret3
        exact ⟨k, HEXIT, by rw [HN.out]; exact rfl, Go.Proofs.YtkngmanfekcjmaaDoor.Law.below_draws (Below.refl _ _) _⟩
      · have hk0 : 0 < k := by omega
        have hk1 : ((k : Int) == 1) = false := by rw [beq_eq_false_iff_ne]; omega
        have hx0 : ∀ w, (Instr.index 9 (.string ⟨l.toArray⟩) (.int .i64 0)).run Tryd.prog w = .ok (.int .u8 ((l.getD 0 0).toNat : Int)) w := fun w => idx_str l 0 (by omega) w
        have HN := Lib.hid (numOk_two l k k2)
        generalize (l.getD 0 0).toNat = c0 at hx0 HN
        clear k2
        go_wp2
        go_quiet (fail)
        go_wp2
        go_ret3
        exact ⟨k, HEXIT, by rw [HN.out]; exact rfl, Go.Proofs.YtkngmanfekcjmaaDoor.Law.below_draws (Below.refl _ _) _⟩
end Go.Proofs.YtkngmanfekcjmaaDoor.Base
