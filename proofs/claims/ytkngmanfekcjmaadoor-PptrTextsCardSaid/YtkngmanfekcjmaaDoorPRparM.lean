/-
  TOWARDS the reference's Parse: what it reads is what a pointer's text spells.
-/
import Derived.Test.YtkngmanfekcjmaaDoorPRnum
set_option linter.unusedVariables false
set_option linter.unusedSimpArgs false
namespace Go.Proofs.YtkngmanfekcjmaaDoor.Base
open Go.ChangeShapes Go.WideShapes Go.ChangeAt Go.RowKit Go.Sort Go.Lib Go.Proofs.YtkngmanfekcjmaaDoor.PM
theorem getD_app_l (a b : List UInt8) (i : Nat) (h : i < a.length) : (a ++ b).getD i 0 = a.getD i 0 := by
  simp only [List.getD, List.getElem?_append_left h]
theorem getD_app_r (a b : List UInt8) : (a ++ b).getD a.length 0 = b.getD 0 0 := by
  simp only [List.getD, List.getElem?_append_right (Nat.le_refl _), Nat.sub_self]
/-- what 'number' reads. -/
def Reads (l : List UInt8) (n : Nat) (r : List UInt8) (b : Bool) : Prop := ∃ k, NumAt l k ∧ n = val (l.take k) ∧ r = l.drop k ∧ b = numOk l k
theorem Reads.small {l : List UInt8} {n : Nat} {r : List UInt8} {b : Bool} (h : Reads l n r b) : n < 100000000000 ∧ r.length ≤ l.length := by
  obtain ⟨k, hk, rfl, rfl, rfl⟩ := h
  have h1 := val_lt (l.take k) hk.digs
  have h2 : 10 ^ (l.take k).length ≤ 10 ^ 11 := Nat.pow_le_pow_right (by decide) (by rw [List.length_take]; have := hk.le; omega)
  refine ⟨by omega, ?_⟩
  rw [List.length_drop]; omega
theorem number_reads (l : List UInt8) (w : World) (hl : l.length ≤ 4294967295) :
    Calls Tryd.prog 37 #[str l] w fun e w' => ∃ (n : Nat) (r : List UInt8) (b : Bool), Hid (Reads l n r b) ∧ (n < 100000000000 ∧ r.length ≤ l.length) ∧ e = .returned (.tuple #[.int .u64 (n : Int), str r, .bool b]) ∧ Below w.heap.size w w' := by
  refine (number_any l w hl).mono ?_
  rintro e w' ⟨k, hk, rfl, hb⟩
  have hR : Reads l (val (l.take k)) (l.drop k) (numOk l k) := ⟨k, hk.out, rfl, rfl, rfl⟩
  exact ⟨_, _, _, Lib.hid hR, hR.small, rfl, hb⟩
/-- what was read without a leading zero is the numeral. -/
theorem Reads.back {l : List UInt8} {n : Nat} {r : List UInt8} (h : Reads l n r true) : l = decDigits n ++ r := by
  obtain ⟨k, hk, rfl, rfl, hb⟩ := h
  unfold numOk at hb
  have h0 : 0 < k := by
    apply Classical.byContradiction; intro h
    simp [h] at hb
  have hlen := hk.len
  have hne : l.take k ≠ [] := by
    intro h
    have := congrArg List.length h
    rw [List.length_take, List.length_nil] at this
    omega
  have hh : (l.take k).length = 1 ∨ (l.take k).head? ≠ some 48 := by
    by_cases h1 : k = 1
    · left; rw [List.length_take]; omega
    · right
      have h2 : decide (l.getD 0 0 ≠ 48) = true := by
        simp only [decide_eq_true h0, decide_eq_false h1, Bool.true_and, Bool.false_or] at hb
        exact hb.symm
      have h3 := of_decide_eq_true h2
      intro he
      apply h3
      cases l with
      | nil => simp at hne
      | cons c l =>
        rw [show k = k - 1 + 1 by omega, List.take_succ_cons] at he
        simp at he
        simp [he]
  rw [canon hne hk.digs hh, List.take_append_drop]
theorem pow_le_of_nDigits (a : Nat) : ∀ j, nDigits a = j + 1 → 0 < a → 10 ^ j ≤ a := by
  induction a using Nat.strongRecOn with
  | _ a ih =>
    intro j hj h0
    by_cases h : a < 10
    · rw [nDigits_small h] at hj
      have : j = 0 := by omega
      subst this; simp; omega
    · rw [nDigits_big h] at hj
      have hp := nDigits_pos (a / 10)
      have := ih (a / 10) (by omega) (j - 1) (by omega) (by omega)
      rw [show j = j - 1 + 1 by omega, Nat.pow_succ]; omega
theorem Reads.of {l : List UInt8} {n a : Nat} {r t : List UInt8} {b : Bool} (h : Reads l n r b) (he : l = decDigits a ++ t) (ha : a < 100000000000) (ht : t = [] ∨ ¬ dig (t.getD 0 0)) : n = a ∧ r = t ∧ b = true := by
  obtain ⟨k, hk, rfl, rfl, rfl⟩ := h
  obtain ⟨d1, d2, d3⟩ := dec_facts a
  have hd11 : (decDigits a).length ≤ 11 := by
    rw [decDigits_length]
    apply Classical.byContradiction; intro hgt
    rcases Nat.eq_zero_or_pos (a / 10) with h0 | h0
    · rw [nDigits_small (by omega)] at hgt; omega
    · obtain ⟨j, hj⟩ : ∃ j, nDigits a = j + 1 := ⟨nDigits a - 1, by omega⟩
      have hp : 10 ^ j ≤ a := pow_le_of_nDigits a j hj (by omega)
      have : 10 ^ 11 ≤ 10 ^ j := Nat.pow_le_pow_right (by decide) (by omega)
      omega
  have hpos : 0 < (decDigits a).length := List.length_pos_iff.2 d3
  have hkL : k = (decDigits a).length := by
    rcases Nat.lt_trichotomy k (decDigits a).length with hlt | heq | hgt
    · exfalso
      rcases hk.stop with h1 | h1 | h1
      · rw [he, List.length_append] at h1; omega
      · omega
      · apply h1
        rw [he, getD_app_l _ _ _ hlt]
        rw [List.getD, List.getElem?_eq_getElem hlt]
        exact d1 _ (List.getElem_mem hlt)
    · exact heq
    · exfalso
      have hlen := hk.len
      rcases ht with h0 | h0
      · rw [he, h0] at hlen; simp at hlen; omega
      · apply h0
        apply hk.digs
        have hl2 : (decDigits a).length < l.length := by omega
        have hm : (decDigits a).length < (l.take k).length := by rw [List.length_take]; omega
        have e1 : (l.take k)[(decDigits a).length] = t.getD 0 0 := by
          rw [List.getElem_take]
          have : l.getD (decDigits a).length 0 = t.getD 0 0 := by
            rw [he, getD_app_r]
          rw [← this, List.getD, List.getElem?_eq_getElem hl2]; rfl
        rw [← e1]
        exact List.getElem_mem hm
  have htk : l.take k = decDigits a := by rw [he, hkL, List.take_left']; rfl
  have hdk : l.drop k = t := by rw [he, hkL, List.drop_left']; rfl
  rw [htk, hdk]
  refine ⟨d2, rfl, ?_⟩
  unfold numOk
  rcases dec_head a with h1 | h1
  · simp [hkL, h1]
  · have h2 : l.getD 0 0 ≠ 48 := by
      intro h48
      apply h1
      rw [he, getD_app_l _ _ _ hpos] at h48
      rw [List.head?_eq_getElem?, List.getElem?_eq_getElem hpos]
      rw [List.getD, List.getElem?_eq_getElem hpos] at h48
      exact congrArg some h48
    rw [decide_eq_true h2]
    simp; omega
/-- what a pointer's text is made of. -/
theorem Spells.steps {l : List UInt8} {q : Int} (h : Spells l q) :
    ∃ k o g : Nat, k ≤ 127 ∧ o < 100000000000 ∧ g ≤ 65535 ∧ l = decDigits k ++ 58 :: (decDigits o ++ 35 :: decDigits g) ∧ mErr (o : Int) (g : Int) (k : Int) = 0 ∧ mVal (o : Int) (g : Int) (k : Int) = q := by
  obtain ⟨h1, h2, h3, h4⟩ := h
  have ho := pOff_range q
  have hg := pGen_range q
  have hk := pKnd_range q
  have hf := (formed_iff q h1 h2).2 h3
  have hk2 : pKnd q ≤ 127 := by unfold Formed at h3; unfold pKnd; omega
  refine ⟨(pKnd q).toNat, (pOff q).toNat, (pGen q).toNat, by omega, by omega, by omega, by rw [← h4, textL_eq], ?_, ?_⟩
  · rw [show ((pKnd q).toNat : Int) = pKnd q by omega, show ((pOff q).toNat : Int) = pOff q by omega, show ((pGen q).toNat : Int) = pGen q by omega]; exact hf.1
  · rw [show ((pKnd q).toNat : Int) = pKnd q by omega, show ((pOff q).toNat : Int) = pOff q by omega, show ((pGen q).toNat : Int) = pGen q by omega]; exact hf.2
theorem Spells.of {l : List UInt8} {k o g : Nat} (hl : l = decDigits k ++ 58 :: (decDigits o ++ 35 :: decDigits g)) (hk : k ≤ 127) (ho : o < 100000000000) (hg : g ≤ 65535) (he : mErr (o : Int) (g : Int) (k : Int) = 0) : Spells l (mVal (o : Int) (g : Int) (k : Int)) := by
  have hr := mVal_range (o : Int) (g : Int) (k : Int) (by omega) (by omega) (by omega)
  obtain ⟨p1, p2, p3, p4, p5⟩ := mVal_parts (o : Int) (g : Int) (k : Int) (by omega) (by omega) (by omega) he
  refine ⟨hr.1, by omega, p4, ?_⟩
  rw [textL_eq, p1, p2, p3, hl]
  simp
end Go.Proofs.YtkngmanfekcjmaaDoor.Base
