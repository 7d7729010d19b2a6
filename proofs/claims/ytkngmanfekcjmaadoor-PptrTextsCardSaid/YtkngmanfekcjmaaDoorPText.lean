/-
  CONTRACTS: Text of a well-formed pointer, and the law's 'awake' (the chapter's examples).
-/
import Derived.Test.YtkngmanfekcjmaaDoorPDec
import Derived.Deep.RegionHeld3
import Derived.Deep.DeepMust
set_option linter.unusedVariables false
set_option linter.unusedSimpArgs false
namespace Go.Proofs.YtkngmanfekcjmaaDoor.Base
open Go.ChangeShapes Go.WideShapes Go.ChangeAt Go.RowKit Go.Sort Go.Lib Go.Proofs.YtkngmanfekcjmaaDoor.PM
theorem decimal_int (B : Nat) (x : Int) (w : World) (h0 : 0 ≤ x) (h1 : x ≤ 18446744073709551615) (htab : Pow B w) :
    Calls Tryd.prog 33 #[.int .u64 x] w fun e w' => e = .returned (str (Lib.decDigits x.toNat)) ∧ Below w.heap.size w w' := by
  have := decimal_any B x.toNat w (by omega) htab
  rw [show ((x.toNat : Nat) : Int) = x by omega] at this
  exact this
theorem dec_len (n : Nat) (h : n < 18446744073709551616) : (Lib.decDigits n).length ≤ 20 := by
  rw [Lib.decDigits_length]
  rcases Nat.eq_zero_or_pos n with rfl | h1
  · decide +kernel
  · have := Lib.numDigits_eq n h1 h; split at this <;> omega
theorem ba_app (a b : List UInt8) : (⟨a.toArray⟩ : ByteArray) ++ ⟨b.toArray⟩ = ⟨(a ++ b).toArray⟩ := by
  apply ByteArray.ext; simp
def textL (p : Int) : List UInt8 := Lib.decDigits (pKnd p).toNat ++ [58] ++ Lib.decDigits (pOff p).toNat ++ [35] ++ Lib.decDigits (pGen p).toNat
set_option maxRecDepth 100000 in
theorem text_formed (B : Nat) (p : Int) (w : World) (h0 : 0 ≤ p) (h1 : p ≤ 18446744073709551615) (hf : Formed p) (hB : B ≤ w.heap.size) (htab : Pow B w) :
    Calls Tryd.prog 27 #[.int .u64 p] w fun e w' => e = .returned (str (textL p)) ∧ Below w.heap.size w w' := by
  have HW := Lib.hid (wf_any p w h0 h1)
  rw [show decide (Formed p) = true by simpa using hf] at HW
  have hp0 : ¬ p = 0 := by unfold Formed at hf; omega
  have HN := Lib.hid (nil_any p w)
  rw [show decide (p = 0) = false by simpa using hp0] at HN
  have HP := Lib.hid htab
  have ho := pOff_range p
  have hg := pGen_range p
  have hk := pKnd_range p
  have HT : Hid (textL p = Lib.decDigits (pKnd p).toNat ++ [58] ++ Lib.decDigits (pOff p).toNat ++ [35] ++ Lib.decDigits (pGen p).toNat) := Lib.hid rfl
  have HK := Lib.hid (fun w => kind_any p w h0 h1)
  have HO := Lib.hid (fun w => off_any p w h0 h1)
  have HG := Lib.hid (fun w => gen_any p w h0 h1)
  have lk := dec_len (pKnd p).toNat (by omega)
  have lo := dec_len (pOff p).toNat (by omega)
  have lg := dec_len (pGen p).toNat (by omega)
  generalize pOff p = o at *
  generalize pGen p = g at *
  generalize pKnd p = k at *
  obtain ⟨o0, o1⟩ : 0 ≤ o ∧ o ≤ 18446744073709551615 := by omega
  obtain ⟨g0, g1⟩ : 0 ≤ g ∧ g ≤ 65535 := hg
  obtain ⟨k0, k1⟩ : 0 ≤ k ∧ k ≤ 255 := hk
  clear htab hf hp0 ho
  have hb0 : Below w.heap.size w w := Below.refl _ _
  go_enter Tryd.func27, Tryd.ntmps27
  go_wp2_with (first
    | (go_at_call 14; refine HN.out.mono ?_; rintro e w' ⟨rfl, hw⟩; have hw2 := hw.symm; clear hw; subst hw2)
    | (go_at_call 31; refine HW.out.mono ?_; rintro e w' ⟨rfl, hw⟩; have hw2 := hw.symm; clear hw; subst hw2)
    | (go_at_call 17; refine (HK.out _).mono ?_; rintro e w' ⟨rfl, hw⟩; have hw2 := hw.symm; clear hw; subst hw2)
    | (go_at_call 15; refine (HO.out _).mono ?_; rintro e w' ⟨rfl, hw⟩; have hw2 := hw.symm; clear hw; subst hw2)
    | (go_at_call 16; refine (HG.out _).mono ?_; rintro e w' ⟨rfl, hw⟩; have hw2 := hw.symm; clear hw; subst hw2)
    | (go_at_call 33; refine (decimal_int B _ _ (by omega) (by omega) (HP.out.on (‹Below w.heap.size w _›.mono hB))).mono ?_; rintro e w' ⟨rfl, hb⟩; have hS2 := ‹Below w.heap.size w _›.trans (hb.mono (‹Below w.heap.size w _›.size)); clear hb))
  all_goals first
    | (exfalso; omega)
    | (have e : (⟨(Lib.decDigits k.toNat).toArray⟩ ++ ⟨#[58]⟩ ++ ⟨(Lib.decDigits o.toNat).toArray⟩ ++ ⟨#[35]⟩ ++ ⟨(Lib.decDigits g.toNat).toArray⟩ : ByteArray) = ⟨(textL p).toArray⟩ := by
         rw [HT.out, show (⟨#[58]⟩ : ByteArray) = ⟨[58].toArray⟩ from rfl, show (⟨#[35]⟩ : ByteArray) = ⟨[35].toArray⟩ from rfl, ba_app, ba_app, ba_app, ba_app]
       go_ret
       exact ⟨congrArg (fun x => Ending.returned (Value.string x)) e, by assumption⟩)
theorem awake_any (B : Nat) (w : World) (hB : B ≤ w.heap.size) (htab : Pow B w) :
    Calls Tryd.prog 13 #[] w fun e w' => e = .returned (.bool true) ∧ Below w.heap.size w w' := by
  have H1 := Lib.hid (make_any 4096 3 64 w (by decide) (by decide) (by decide))
  have H2 := Lib.hid (make_any 12 1 1 w (by decide) (by decide) (by decide))
  have hp : mVal 4096 3 64 = 18014411394384384 := by decide
  have hp2 : mErr 4096 3 64 = 0 := by decide
  have hq : mVal 12 1 1 = 0 := by decide
  have hq2 : mErr 12 1 1 = 1 := by decide
  rw [hp, hp2] at H1
  rw [hq, hq2] at H2
  have H3 := Lib.hid (reloc_any 18014411394384384 (-4096) w (by decide) (by decide) (by decide) (by decide))
  rw [show rVal 18014411394384384 (-4096) = 0 by decide, show rErr 18014411394384384 (-4096) = 2 by decide] at H3
  have H4 := Lib.hid (text_formed B 18014411394384384 w (by decide) (by decide) (by decide) hB htab)
  rw [show textL 18014411394384384 = [54, 52, 58, 52, 48, 57, 54, 35, 51] by decide +kernel] at H4
  have H5 := Lib.hid (fun w => at_any 18014411394384384 2 w (by decide) (by decide) (by decide) (by decide))
  rw [show atV 18014411394384384 2 = 4112 by decide] at H5
  clear hp hp2 hq hq2 htab
  go_enter Tryd.func13, Tryd.ntmps13
  go_wp2_with (first
    | (go_at_call_of 11 (Value.int .u64 4096); refine H1.out.mono ?_; rintro e w' ⟨rfl, hw⟩; have hw2 := hw.symm; clear hw; subst hw2)
    | (go_at_call_of 11 (Value.int .u64 12); refine H2.out.mono ?_; rintro e w' ⟨rfl, hw⟩; have hw2 := hw.symm; clear hw; subst hw2)
    | (go_at_call 24; refine H3.out.mono ?_; rintro e w' ⟨rfl, hw⟩; have hw2 := hw.symm; clear hw; subst hw2)
    | (go_at_call 27; refine H4.out.mono ?_; rintro e w' ⟨rfl, hb⟩)
    | (go_at_call 23; refine (H5.out _).mono ?_; rintro e w' ⟨rfl, hw⟩; have hw2 := hw.symm; clear hw; subst hw2))
  go_ret
  exact ⟨rfl, hb⟩
end Go.Proofs.YtkngmanfekcjmaaDoor.Base
