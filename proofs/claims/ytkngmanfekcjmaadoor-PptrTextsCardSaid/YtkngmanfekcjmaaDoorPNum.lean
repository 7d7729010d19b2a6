/-
  DECIMAL NUMERALS AND A POINTER'S TEXT, as lists of bytes: a numeral's value, what strconv.ParseUint makes of it, where strings.Cut cuts; which pointer a text spells.
-/
import Derived.Test.YtkngmanfekcjmaaDoorPText
import Derived.Test.YtkngmanfekcjmaaDoorShelfB
set_option linter.unusedVariables false
set_option linter.unusedSimpArgs false
namespace Go.Proofs.YtkngmanfekcjmaaDoor.PM
open Go.Lib Go.Proofs.YtkngmanfekcjmaaDoor.Base
def dig (c : UInt8) : Prop := 48 ≤ c.toNat ∧ c.toNat ≤ 57
instance (c : UInt8) : Decidable (dig c) := by unfold dig; infer_instance
def valA (a : Nat) (l : List UInt8) : Nat := l.foldl (fun a c => 10 * a + (c.toNat - 48)) a
abbrev val (l : List UInt8) : Nat := valA 0 l
theorem valA_nil (a : Nat) : valA a [] = a := rfl
theorem valA_cons (a : Nat) (c : UInt8) (l : List UInt8) : valA a (c :: l) = valA (10 * a + (c.toNat - 48)) l := by unfold valA; rw [List.foldl_cons]
theorem valA_snoc (a : Nat) (l : List UInt8) (c : UInt8) : valA a (l ++ [c]) = 10 * valA a l + (c.toNat - 48) := by simp [valA]
theorem valA_le (a : Nat) (l : List UInt8) : a ≤ valA a l := by
  induction l generalizing a with
  | nil => exact Nat.le_refl _
  | cons c l ih => rw [valA_cons]; have := ih (10 * a + (c.toNat - 48)); omega
theorem ofNat_toNat (n : Nat) (h : n < 256) : (UInt8.ofNat n).toNat = n := by
  rw [UInt8.toNat_ofNat']; omega
theorem dec_small {u : Nat} (h : u < 10) : decDigits u = [UInt8.ofNat (48 + u)] := by rw [decDigits, dif_pos h]
theorem dec_big {u : Nat} (h : ¬ u < 10) : decDigits u = decDigits (u / 10) ++ [UInt8.ofNat (48 + u % 10)] := by rw [decDigits, dif_neg h]
theorem dec_facts (u : Nat) : (∀ c ∈ decDigits u, dig c) ∧ val (decDigits u) = u ∧ decDigits u ≠ [] := by
  induction u using Nat.strongRecOn with
  | _ u ih =>
    by_cases h : u < 10
    · rw [dec_small h]
      refine ⟨?_, ?_, by simp⟩
      · intro c hc
        rw [List.mem_singleton.1 hc]
        unfold dig; rw [ofNat_toNat _ (by omega)]; omega
      · rw [val, valA_cons, valA_nil, ofNat_toNat _ (by omega)]; omega
    · rw [dec_big h]
      obtain ⟨i1, i2, i3⟩ := ih (u / 10) (by omega)
      refine ⟨?_, ?_, by simp⟩
      · intro c hc
        rcases List.mem_append.1 hc with hc | hc
        · exact i1 c hc
        · rw [List.mem_singleton.1 hc]
          unfold dig; rw [ofNat_toNat _ (by omega)]; omega
      · rw [val, valA_snoc]
        have : valA 0 (decDigits (u / 10)) = u / 10 := i2
        rw [this, ofNat_toNat _ (by omega)]; omega
theorem dec_head (u : Nat) : (decDigits u).length = 1 ∨ (decDigits u).head? ≠ some 48 := by
  induction u using Nat.strongRecOn with
  | _ u ih =>
    by_cases h : u < 10
    · rw [dec_small h]; exact .inl rfl
    · right
      rw [dec_big h]
      by_cases h2 : u / 10 < 10
      · rw [dec_small h2]
        intro hh
        simp at hh
        have := congrArg UInt8.toNat hh
        rw [ofNat_toNat _ (by omega)] at this
        simp at this
        omega
      · rcases ih (u / 10) (by omega) with hl | hh
        · rw [decDigits_length, nDigits_big h2] at hl
          have := nDigits_pos (u / 10 / 10)
          omega
        · intro h3
          rw [List.head?_append] at h3
          cases hd : (decDigits (u / 10)).head? with
          | none => exact (dec_facts (u / 10)).2.2 (List.head?_eq_none_iff.1 hd)
          | some c => rw [hd] at h3 hh; simp at h3; exact hh (by rw [h3])
theorem canon_aux (n : Nat) : ∀ l : List UInt8, l.length = n → l ≠ [] → (∀ c ∈ l, dig c) → (l.head? ≠ some 48 → 1 ≤ val l) ∧ (l.length = 1 ∨ l.head? ≠ some 48 → decDigits (val l) = l) := by
  induction n with
  | zero => intro l h1 h2; exact absurd (List.eq_nil_of_length_eq_zero h1) h2
  | succ n ih =>
    intro l hl hne hd
    obtain ⟨l', c, rfl⟩ : ∃ l' c, l = l' ++ [c] := ⟨l.dropLast, l.getLast hne, (List.dropLast_concat_getLast hne).symm⟩
    have hc : dig c := hd c (by simp)
    have hv : val (l' ++ [c]) = 10 * val l' + (c.toNat - 48) := valA_snoc 0 l' c
    unfold dig at hc
    by_cases h0 : l' = []
    · subst h0
      simp only [List.nil_append] at hv ⊢
      have e0 : val [] = 0 := rfl
      rw [e0] at hv
      have ec : UInt8.ofNat (48 + val [c]) = c := by
        apply UInt8.toNat_inj.1
        rw [ofNat_toNat _ (by omega)]; omega
      refine ⟨?_, ?_⟩
      · intro hh
        have : c.toNat ≠ 48 := fun h => hh (by simp; exact UInt8.toNat_inj.1 h)
        omega
      · intro _
        rw [dec_small (by omega), ec]
    · have hl' : l'.length = n := by simp at hl; exact hl
      have hd' : ∀ c ∈ l', dig c := fun x hx => hd x (by simp [hx])
      obtain ⟨i1, i2⟩ := ih l' hl' h0 hd'
      have hh : (l' ++ [c]).head? = l'.head? := by
        rw [List.head?_append]
        cases hq : l'.head? with
        | none => exact absurd (List.head?_eq_none_iff.1 hq) h0
        | some x => rfl
      rw [hh]
      refine ⟨fun h => ?_, fun h => ?_⟩
      · have := i1 h; omega
      · have hlen : ¬ (l' ++ [c]).length = 1 := by
          have := List.length_pos_iff.2 h0
          simp; omega
        have h48 : l'.head? ≠ some 48 := h.resolve_left hlen
        have p := i1 h48
        have q := i2 (.inr h48)
        have e1 : (10 * val l' + (c.toNat - 48)) / 10 = val l' := by omega
        have e2 : 48 + (10 * val l' + (c.toNat - 48)) % 10 = c.toNat := by omega
        rw [hv, dec_big (by omega), e1, e2, q]
        congr 1
        simp
/-- digits without a leading zero are the numeral of their value. -/
theorem canon {l : List UInt8} (h : l ≠ []) (hd : ∀ c ∈ l, dig c) (hh : l.length = 1 ∨ l.head? ≠ some 48) : decDigits (val l) = l := (canon_aux l.length l rfl h hd).2 hh
theorem pm_ok (M : Nat) (hM : M ≤ 18446744073709551615) : ∀ (l : List UInt8) (acc : Nat), (∀ c ∈ l, dig c) → valA acc l ≤ M → parseUintM M acc l = .ok (valA acc l) := by
  intro l
  induction l with
  | nil => intro acc _ _; rfl
  | cons c l ih =>
    intro acc hd hv
    have hc : dig c := hd c (by simp)
    rw [valA_cons] at hv
    have h1 := valA_le (10 * acc + (c.toNat - 48)) l
    unfold dig at hc
    have e : acc * 10 + (c.toNat - 48) = 10 * acc + (c.toNat - 48) := by omega
    rw [parseUintM, if_pos hc, if_neg (by omega), if_neg (by omega), e, ih _ (fun x hx => hd x (by simp [hx])) hv, valA_cons]
theorem pu_dec (B u : Nat) (hB : B ≤ 64) (h : u ≤ 2 ^ B - 1) : parseUintB B (decDigits u) = .ok u := by
  obtain ⟨h1, h2, h3⟩ := dec_facts u
  have hp : 2 ^ B ≤ 2 ^ 64 := Nat.pow_le_pow_right (by decide) hB
  have h2' : valA 0 (decDigits u) = u := h2
  rw [parseUintB, if_neg h3, pm_ok _ (by omega) _ 0 h1 (by rw [h2']; exact h), h2']
/-- the number that ParseUint returns, whatever error stands beside it. -/
def pv (B : Nat) (l : List UInt8) : Nat := match parseUintB B l with
  | .ok u => u
  | .syntax => 0
  | .range => 2 ^ B - 1
theorem pv_le (B : Nat) (l : List UInt8) : pv B l ≤ 2 ^ B - 1 := by
  unfold pv
  split
  · rename_i h; exact parseUintB_le h
  · omega
  · omega
theorem pv_dec (B u : Nat) (hB : B ≤ 64) (h : u ≤ 2 ^ B - 1) : pv B (decDigits u) = u := by unfold pv; rw [pu_dec B u hB h]
theorem index_at (c : UInt8) (a b : List UInt8) (h : c ∉ a) : Lib.index (a ++ c :: b) [c] = a.length := by
  induction a with
  | nil => simp [Lib.index, List.isPrefixOf]
  | cons x a ih =>
    have hx : c ≠ x := fun e => h (by simp [e])
    have := ih (fun hm => h (by simp [hm]))
    rw [List.cons_append, Lib.index, this]
    have hp : ([c] : List UInt8).isPrefixOf (x :: (a ++ c :: b)) = false := by simp [List.isPrefixOf, hx]
    rw [hp]
    have h2 : ((a.length : Int) == -1) = false := by rw [beq_eq_false_iff_ne]; omega
    rw [h2]
    simp
theorem cut_at (c : UInt8) (a b : List UInt8) (h : c ∉ a) : Lib.cut (a ++ c :: b) [c] = (a, b, true) := by
  unfold Lib.cut
  rw [index_at c a b h, if_pos (by omega)]
  simp
theorem not_dig {c : UInt8} {u : Nat} (h : ¬ dig c) : c ∉ decDigits u := fun hm => h ((dec_facts u).1 c hm)
theorem textL_eq (q : Int) : textL q = decDigits (pKnd q).toNat ++ 58 :: (decDigits (pOff q).toNat ++ 35 :: decDigits (pGen q).toNat) := by
  unfold textL; simp
def kOf (s : List UInt8) : Nat := pv 8 (Lib.cut s [58]).1
def oOf (s : List UInt8) : Nat := pv 64 (Lib.cut (Lib.cut s [58]).2.1 [35]).1
def gOf (s : List UInt8) : Nat := pv 16 (Lib.cut (Lib.cut s [58]).2.1 [35]).2.1
/-- a text's parts are the pointer's. -/
theorem parts_of (q : Int) : (kOf (textL q) : Int) = pKnd q ∧ (oOf (textL q) : Int) = pOff q ∧ (gOf (textL q) : Int) = pGen q := by
  have ho := pOff_range q
  have hg := pGen_range q
  have hk := pKnd_range q
  unfold kOf oOf gOf
  rw [textL_eq, cut_at 58 _ _ (not_dig (by decide)), cut_at 35 _ _ (not_dig (by decide)), pv_dec 8 _ (by decide) (by omega), pv_dec 64 _ (by decide) (by omega), pv_dec 16 _ (by decide) (by omega)]
  omega
/-- which pointer a text spells. -/
def Spells (s : List UInt8) (q : Int) : Prop := 0 ≤ q ∧ q ≤ 18446744073709551615 ∧ Formed q ∧ textL q = s
def PSpec (s : List UInt8) (q x : Int) : Prop := (x = 0 ∧ Spells s q) ∨ (x = 11 ∧ q = 0 ∧ ∀ q', ¬ Spells s q')
theorem Spells.uniq {s : List UInt8} {p q : Int} (h1 : Spells s p) (h2 : Spells s q) : p = q := by
  obtain ⟨a1, a2, a3, a4⟩ := h1
  obtain ⟨b1, b2, b3, b4⟩ := h2
  have e1 := parts_of p
  have e2 := parts_of q
  rw [a4] at e1
  rw [b4] at e2
  have f1 := ((formed_iff p a1 a2).2 a3).2
  have f2 := ((formed_iff q b1 b2).2 b3).2
  rw [← f1, ← f2, ← e1.1, ← e1.2.1, ← e1.2.2, ← e2.1, ← e2.2.1, ← e2.2.2]
theorem PSpec.uniq {s : List UInt8} {p q x y : Int} (h1 : PSpec s p x) (h2 : PSpec s q y) : p = q ∧ x = y := by
  rcases h1 with ⟨a1, a2⟩ | ⟨a1, a2, a3⟩ <;> rcases h2 with ⟨b1, b2⟩ | ⟨b1, b2, b3⟩
  · exact ⟨a2.uniq b2, by omega⟩
  · exact absurd a2 (b3 p)
  · exact absurd b2 (a3 q)
  · exact ⟨by omega, by omega⟩
/-- the program's way: the parts are read without care, and the text is compared. -/
theorem spec_of (s : List UInt8) :
    ((mErr (oOf s) (gOf s) (kOf s) = 0 ∧ textL (mVal (oOf s) (gOf s) (kOf s)) = s) → PSpec s (mVal (oOf s) (gOf s) (kOf s)) 0) ∧
    (¬ (mErr (oOf s) (gOf s) (kOf s) = 0 ∧ textL (mVal (oOf s) (gOf s) (kOf s)) = s) → PSpec s 0 11) := by
  have ho : oOf s ≤ 2 ^ 64 - 1 := pv_le _ _
  have hg : gOf s ≤ 2 ^ 16 - 1 := pv_le _ _
  have hk : kOf s ≤ 2 ^ 8 - 1 := pv_le _ _
  refine ⟨fun h => .inl ⟨rfl, ?_⟩, fun h => .inr ⟨rfl, rfl, fun q' hq => h ?_⟩⟩
  · have hr := mVal_range (oOf s) (gOf s) (kOf s) (by omega) (by omega) (by omega)
    have hp := mVal_parts (oOf s) (gOf s) (kOf s) (by omega) (by omega) (by omega) h.1
    exact ⟨hr.1, by omega, hp.2.2.2.1, h.2⟩
  · obtain ⟨b1, b2, b3, b4⟩ := hq
    have e := parts_of q'
    rw [b4] at e
    rw [e.1, e.2.1, e.2.2]
    have f := (formed_iff q' b1 b2).2 b3
    rw [f.1, f.2]
    exact ⟨rfl, b4⟩
end Go.Proofs.YtkngmanfekcjmaaDoor.PM
