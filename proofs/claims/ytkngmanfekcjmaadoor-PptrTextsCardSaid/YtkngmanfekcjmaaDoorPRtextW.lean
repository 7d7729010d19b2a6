/-
  CONTRACT: the reference's Text.
-/
import Derived.Test.YtkngmanfekcjmaaDoorPRtext
set_option linter.unusedVariables false
set_option linter.unusedSimpArgs false
namespace Go.Proofs.YtkngmanfekcjmaaDoor.Base
open Go.ChangeShapes Go.WideShapes Go.ChangeAt Go.RowKit Go.Sort Go.Lib Go.Proofs.YtkngmanfekcjmaaDoor.PM
theorem number_int (x : Int) (w : World) (h0 : 0 ≤ x) (h1 : x ≤ 18446744073709551615) :
    Calls Tryd.prog 36 #[.int .u64 x] w fun e w' => e = .returned (str (decDigits x.toNat)) ∧ Below w.heap.size w w' := by
  have := number_text x.toNat w (by omega)
  rw [show ((x.toNat : Nat) : Int) = x by omega] at this
  exact this
theorem rtext_nil (w : World) : Calls Tryd.prog 29 #[.int .u64 0] w fun e w' => e = .returned (str [45]) ∧ w' = w := by
  go_enter Tryd.func29, Tryd.ntmps29
  go_wp2
  go_ret
  exact ⟨rfl, rfl⟩
set_option maxRecDepth 100000 in
theorem rtext_formed (p : Int) (w : World) (h0 : 0 ≤ p) (h1 : p ≤ 18446744073709551615) (hf : Formed p) :
    Calls Tryd.prog 29 #[.int .u64 p] w fun e w' => e = .returned (str (textL p)) ∧ Below w.heap.size w w' := by
  have HW := Lib.hid (formed_any p w h0 h1)
  rw [show decide (Formed p) = true by simpa using hf] at HW
  have hp0 : (p == 0) = false := by rw [beq_eq_false_iff_ne]; unfold Formed at hf; omega
  have ho := pOff_range p
  have hg := pGen_range p
  have hk := pKnd_range p
  have HT : Hid (textL p = Lib.decDigits (pKnd p).toNat ++ [58] ++ Lib.decDigits (pOff p).toNat ++ [35] ++ Lib.decDigits (pGen p).toNat) := Lib.hid rfl
  have HK := Lib.hid (fun w => rkind_any p w h0 h1)
  have HO := Lib.hid (fun w => roff_any p w h0 h1)
  have HG := Lib.hid (fun w => rgen_any p w h0 h1)
  have lk := dec_len (pKnd p).toNat (by omega)
  have lo := dec_len (pOff p).toNat (by omega)
  have lg := dec_len (pGen p).toNat (by omega)
  generalize pOff p = o at *
  generalize pGen p = g at *
  generalize pKnd p = k at *
  obtain ⟨o0, o1⟩ : 0 ≤ o ∧ o ≤ 18446744073709551615 := by omega
  obtain ⟨g0, g1⟩ : 0 ≤ g ∧ g ≤ 65535 := hg
  obtain ⟨k0, k1⟩ : 0 ≤ k ∧ k ≤ 255 := hk
  clear hf ho
  have hb0 : Below w.heap.size w w := Below.refl _ _
  go_enter Tryd.func29, Tryd.ntmps29
  go_wp2_with (first
    | (go_at_call 22; refine HW.out.mono ?_; rintro e w' ⟨rfl, hw⟩; have hw2 := hw.symm; clear hw; subst hw2)
    | (go_at_call 21; refine (HK.out _).mono ?_; rintro e w' ⟨rfl, hw⟩; have hw2 := hw.symm; clear hw; subst hw2)
    | (go_at_call 19; refine (HO.out _).mono ?_; rintro e w' ⟨rfl, hw⟩; have hw2 := hw.symm; clear hw; subst hw2)
    | (go_at_call 20; refine (HG.out _).mono ?_; rintro e w' ⟨rfl, hw⟩; have hw2 := hw.symm; clear hw; subst hw2)
    | (go_at_call 36; refine (number_int _ _ (by omega) (by omega)).mono ?_; rintro e w' ⟨rfl, hb⟩; have hS2 := ‹Below w.heap.size w _›.trans (hb.mono (‹Below w.heap.size w _›.size)); clear hb))
  all_goals first
    | (exfalso; omega)
    | (have e : (⟨(Lib.decDigits k.toNat).toArray⟩ ++ ⟨#[58]⟩ ++ ⟨(Lib.decDigits o.toNat).toArray⟩ ++ ⟨#[35]⟩ ++ ⟨(Lib.decDigits g.toNat).toArray⟩ : ByteArray) = ⟨(textL p).toArray⟩ := by
         rw [HT.out, show (⟨#[58]⟩ : ByteArray) = ⟨[58].toArray⟩ from rfl, show (⟨#[35]⟩ : ByteArray) = ⟨[35].toArray⟩ from rfl, ba_app, ba_app, ba_app, ba_app]
       go_ret
       exact ⟨congrArg (fun x => Ending.returned (Value.string x)) e, by assumption⟩)
def hexC : ByteArray := ⟨#[48, 49, 50, 51, 52, 53, 54, 55, 56, 57, 97, 98, 99, 100, 101, 102]⟩
theorem hexC_piece : ∀ i : Fin 16, (hexC.data.toList.drop i.val).take (i.val + 1 - i.val) = [hx i.val] := by decide +kernel
theorem slice_hexC (i : Nat) (hi : i < 16) (w : World) : (Instr.slice 9 (.string hexC) (some (.int .i64 (i : Int))) (some (.int .i64 ((i : Int) + 1))) none).run Tryd.prog w = .ok (.string ⟨[hx i].toArray⟩) w := by
  have hs : hexC.size = 16 := rfl
  rw [run_slice_string w 9 hexC .i64 .i64 _ _ Tryd.underlying9 (by omega) (by omega) (by rw [hs]; omega), show ((i : Int)).toNat = i by omega, show ((i : Int) + 1).toNat = i + 1 by omega]
  rw [ba_of (hexC.extract i (i + 1)) [hx i] (by rw [Lib.extract_data]; exact hexC_piece ⟨i, hi⟩)]
theorem shift_cast (u m : Nat) : (u : Int) / 2 ^ (4 * m) = ((u / 16 ^ m : Nat) : Int) := by
  have e : (2 : Int) ^ (4 * m) = ((16 ^ m : Nat) : Int) := by
    rw [show (16 : Nat) = 2 ^ 4 from rfl, ← Nat.pow_mul]; simp
  rw [e]; simp
set_option maxHeartbeats 800000 in
set_option maxRecDepth 100000 in
theorem rtext_hex (p : Int) (w : World) (h0 : 0 ≤ p) (h1 : p ≤ 18446744073709551615) (hp : p ≠ 0) (hf : ¬ Formed p) :
    Calls Tryd.prog 29 #[.int .u64 p] w fun e w' => e = .returned (str (hexL p)) ∧ Below w.heap.size w w' := by
  have HW := Lib.hid (formed_any p w h0 h1)
  rw [show decide (Formed p) = false by simpa using hf] at HW
  obtain ⟨u, rfl⟩ : ∃ u : Nat, p = u := ⟨p.toNat, by omega⟩
  have hp0 : ((u : Int) == 0) = false := by rw [beq_eq_false_iff_ne]; exact hp
  have HE : Hid (hexL (u : Int) = [48, 120] ++ hexN 16 u) := Lib.hid (by unfold hexL; rfl)
  clear hf hp
  go_enter Tryd.func29, Tryd.ntmps29
  go_name_bytes_deep 12 HC hHC
  have eHC : HC = hexC := by rw [← hHC]; rfl
  subst eHC
  clear hHC
  go_wp2_with (go_at_call 22; refine HW.out.mono ?_; rintro e w' ⟨rfl, hw⟩; have hw2 := hw.symm; clear hw; subst hw2)
  go_loop [3, 4] (fun vs vj => ∃ k : Nat, k ≤ 16 ∧ vs = str ([48, 120] ++ hexN (16 - k) (u / 16 ^ k)) ∧ ((k = 0 ∧ vj = .int .i64 (-4)) ∨ (∃ m : Nat, k = m + 1 ∧ vj = .int .i64 ((4 * m : Nat) : Int)))) (fun _ vj => (RowKit.intOf vj + 4).toNat)
  case atStart => exact ⟨16, by omega, by simp [hexN], .inr ⟨15, rfl, rfl⟩⟩
  case round =>
    obtain ⟨k, hk, rfl, ⟨rfl, rfl⟩ | ⟨m, rfl, rfl⟩⟩ := hrel
    · go_wp2
      go_ret
      refine ⟨?_, Below.refl _ _⟩
      rw [HE.out]; simp
    · obtain ⟨d, hd⟩ : ∃ d, u / 16 ^ m % 16 = d := ⟨_, rfl⟩
      have hd16 : d < 16 := by omega
      have hD : wrap64 (bits .and .u64 ((u : Int) / 2 ^ (4 * m)) 15) = (d : Int) := by rw [shift_cast, and15 _ (by have := Nat.div_le_self u (16 ^ m); omega), hd]; unfold wrap64; omega
      have hD1 : wrap64 ((d : Int) + 1) = (d : Int) + 1 := by unfold wrap64; omega
      have hsl := fun W => slice_hexC d hd16 W
      have hln : (hexN (16 - (m + 1)) (u / 16 ^ (m + 1))).length = 16 - (m + 1) := hexN_length _ _
      have HN : Hid (hexN (16 - m) (u / 16 ^ m) = hexN (16 - (m + 1)) (u / 16 ^ (m + 1)) ++ [hx d]) := Lib.hid (by
        rw [show 16 - m = 16 - (m + 1) + 1 by omega, hexN, Nat.div_div_eq_div_mul, ← Nat.pow_succ, hd])
      clear hd
      generalize hexN (16 - (m + 1)) (u / 16 ^ (m + 1)) = l at *
      go_wp2
      go_round
      case rel =>
        refine ⟨m, by omega, ?_, ?_⟩
        · have e := ba_app (48 :: 120 :: l) [hx d]
          rw [HN.out]
          exact congrArg Value.string e
        · cases m with
          | zero => exact .inl ⟨rfl, rfl⟩
          | succ m => exact .inr ⟨m, rfl, by congr 1; omega⟩
      case measure => simp [RowKit.intOf]; omega
end Go.Proofs.YtkngmanfekcjmaaDoor.Base
