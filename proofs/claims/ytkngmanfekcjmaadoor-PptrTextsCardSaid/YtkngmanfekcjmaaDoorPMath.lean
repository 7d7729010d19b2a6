/-
  A POINTER'S PARTS AS NUMBERS: Make's value and error, the parts, 'formed', Relocate's value and error: one model for the program and the reference.
-/
import Derived.Test.YtkngmanfekcjmaaDoorRows
import Derived.WalkKit
import Derived.IntWalk
import Derived.ProofKit
import Derived.OpenShut
import Derived.Deep.QuietTactic
import Derived.BigQuiet
import Derived.Handy
import Derived.Laws.Externs
import Derived.Lib.Hide
set_option linter.unusedVariables false
set_option linter.unusedSimpArgs false
namespace Go.Proofs.YtkngmanfekcjmaaDoor.PM
def bad (o g k : Int) : Prop := o = 0 ∨ o % 8 ≠ 0 ∨ g = 0 ∨ k = 0 ∨ 127 < k
instance (o g k : Int) : Decidable (bad o g k) := by unfold bad; infer_instance
def mErr (o g k : Int) : Int := if bad o g k then 1 else if 4294967295 < o / 8 then 2 else 0
def mVal (o g k : Int) : Int := if bad o g k then 0 else if 4294967295 < o / 8 then 0 else o / 8 + g * 4294967296 + k * 281474976710656
def pOff (p : Int) : Int := p % 4294967296 * 8
def pGen (p : Int) : Int := p / 4294967296 % 65536
def pKnd (p : Int) : Int := p / 281474976710656 % 256
/-- well-formed. -/
def Formed (p : Int) : Prop := p % 4294967296 ≠ 0 ∧ p / 4294967296 % 65536 ≠ 0 ∧ p / 281474976710656 % 256 ≠ 0 ∧ p / 281474976710656 ≤ 127
instance (p : Int) : Decidable (Formed p) := by unfold Formed; infer_instance
theorem pOff_range (p : Int) : 0 ≤ pOff p ∧ pOff p ≤ 34359738360 ∧ pOff p % 8 = 0 ∧ pOff p / 8 = p % 4294967296 := by unfold pOff; omega
theorem pGen_range (p : Int) : 0 ≤ pGen p ∧ pGen p ≤ 65535 := by unfold pGen; omega
theorem pKnd_range (p : Int) : 0 ≤ pKnd p ∧ pKnd p ≤ 255 := by unfold pKnd; omega
theorem parts (p : Int) : p = p % 4294967296 + p / 4294967296 % 65536 * 4294967296 + p / 281474976710656 * 281474976710656 := by omega
/-- 'formed' as both texts ask for it: Make gives the pointer again. -/
theorem formed_iff (p : Int) (h0 : 0 ≤ p) (h1 : p ≤ 18446744073709551615) : (mErr (pOff p) (pGen p) (pKnd p) = 0 ∧ mVal (pOff p) (pGen p) (pKnd p) = p) ↔ Formed p := by
  have hp := parts p
  have ho := pOff_range p
  unfold mErr mVal
  by_cases hb : bad (pOff p) (pGen p) (pKnd p)
  · rw [if_pos hb, if_pos hb]
    unfold bad pOff pGen pKnd at hb
    unfold Formed
    constructor
    · rintro ⟨h, _⟩; omega
    · intro h; omega
  · have h8 : ¬ 4294967295 < pOff p / 8 := by unfold pOff; omega
    rw [if_neg hb, if_neg hb, if_neg h8, if_neg h8]
    unfold bad pOff pGen pKnd at hb
    unfold Formed pOff pGen pKnd
    constructor
    · rintro ⟨_, h⟩; omega
    · intro h; omega
theorem mVal_range (o g k : Int) (ho : 0 ≤ o ∧ o ≤ 18446744073709551615) (hg : 0 ≤ g ∧ g ≤ 65535) (hk : 0 ≤ k ∧ k ≤ 255) : 0 ≤ mVal o g k ∧ mVal o g k ≤ 36028797018963967 := by
  unfold mVal
  by_cases hb : bad o g k
  · rw [if_pos hb]; omega
  · rw [if_neg hb]
    unfold bad at hb
    split <;> omega
theorem mErr_mVal (o g k : Int) (h : mErr o g k ≠ 0) : mVal o g k = 0 := by
  unfold mErr at h
  unfold mVal
  by_cases hb : bad o g k
  · rw [if_pos hb]
  · rw [if_neg hb] at h ⊢
    by_cases h8 : 4294967295 < o / 8
    · rw [if_pos h8]
    · rw [if_neg h8] at h; omega
theorem mVal_parts (o g k : Int) (ho : 0 ≤ o ∧ o ≤ 18446744073709551615) (hg : 0 ≤ g ∧ g ≤ 65535) (hk : 0 ≤ k ∧ k ≤ 255) (h : mErr o g k = 0) :
    pOff (mVal o g k) = o ∧ pGen (mVal o g k) = g ∧ pKnd (mVal o g k) = k ∧ Formed (mVal o g k) ∧ mVal o g k ≠ 0 := by
  unfold mErr at h
  unfold mVal
  by_cases hb : bad o g k
  · rw [if_pos hb] at h; omega
  · rw [if_neg hb] at h ⊢
    by_cases h8 : 4294967295 < o / 8
    · rw [if_pos h8] at h; omega
    · rw [if_neg h8]
      unfold bad at hb
      unfold pOff pGen pKnd Formed
      refine ⟨?_, ?_, ?_, ?_, ?_⟩ <;> omega
/-- 'place | gen<<32 | kind<<48' is the sum. -/
theorem or_sum (x y k : Nat) (hx : x < 18446744073709551616) (hy : y < 18446744073709551616) (h : x < 2 ^ k) (hm : y % 2 ^ k = 0) : bits .or .u64 (x : Int) (y : Int) = ((x + y : Nat) : Int) := by
  rw [u64_or_nat _ _ hx hy, Nat.or_comm, nat_join k _ _ hm h, Nat.add_comm]
theorem or_two (o g k : Int) (ho : 0 ≤ o) (ho2 : o ≤ 4294967295) (hg : 0 ≤ g ∧ g ≤ 65535) (hk : 0 ≤ k ∧ k ≤ 255) :
    bits .or .u64 (bits .or .u64 o (g * 4294967296)) (k * 281474976710656) = o + g * 4294967296 + k * 281474976710656 := by
  obtain ⟨a, rfl⟩ : ∃ a : Nat, o = a := ⟨o.toNat, by omega⟩
  obtain ⟨b, rfl⟩ : ∃ b : Nat, g = b := ⟨g.toNat, by omega⟩
  obtain ⟨c, rfl⟩ : ∃ c : Nat, k = c := ⟨k.toNat, by omega⟩
  have e1 := or_sum a (b * 4294967296) 32 (by omega) (by omega) (by omega) (by omega)
  have e2 := or_sum (a + b * 4294967296) (c * 281474976710656) 48 (by omega) (by omega) (by omega) (by omega)
  rw [show ((b : Int) * 4294967296) = ((b * 4294967296 : Nat) : Int) by omega, show ((c : Int) * 281474976710656) = ((c * 281474976710656 : Nat) : Int) by omega, e1, e2]
  omega
theorem m_bad {o g k : Int} (h : bad o g k) : mVal o g k = 0 ∧ mErr o g k = 1 := by unfold mVal mErr; rw [if_pos h, if_pos h]; exact ⟨rfl, rfl⟩
theorem m_far {o g k : Int} (h : ¬ bad o g k) (h2 : 4294967295 < o / 8) : mVal o g k = 0 ∧ mErr o g k = 2 := by unfold mVal mErr; rw [if_neg h, if_neg h, if_pos h2, if_pos h2]; exact ⟨rfl, rfl⟩
theorem m_ok {o g k : Int} (h : ¬ bad o g k) (h2 : ¬ 4294967295 < o / 8) : mVal o g k = o / 8 + g * 4294967296 + k * 281474976710656 ∧ mErr o g k = 0 := by unfold mVal mErr; rw [if_neg h, if_neg h, if_neg h2, if_neg h2]; exact ⟨rfl, rfl⟩
def rErr (p d : Int) : Int := if ¬ Formed p ∨ d % 8 ≠ 0 then 1 else if p % 4294967296 + d / 8 < 1 ∨ 4294967295 < p % 4294967296 + d / 8 then 2 else 0
def rVal (p d : Int) : Int := if rErr p d = 0 then p + d / 8 else 0
theorem r_bad {p d : Int} (h : ¬ Formed p ∨ d % 8 ≠ 0) : rVal p d = 0 ∧ rErr p d = 1 := by
  have : rErr p d = 1 := by unfold rErr; rw [if_pos h]
  unfold rVal; rw [this]; exact ⟨rfl, rfl⟩
theorem r_far {p d : Int} (h : ¬ (¬ Formed p ∨ d % 8 ≠ 0)) (h2 : p % 4294967296 + d / 8 < 1 ∨ 4294967295 < p % 4294967296 + d / 8) : rVal p d = 0 ∧ rErr p d = 2 := by
  have : rErr p d = 2 := by unfold rErr; rw [if_neg h, if_pos h2]
  unfold rVal; rw [this]; exact ⟨rfl, rfl⟩
theorem r_ok {p d : Int} (h : ¬ (¬ Formed p ∨ d % 8 ≠ 0)) (h2 : ¬ (p % 4294967296 + d / 8 < 1 ∨ 4294967295 < p % 4294967296 + d / 8)) : rVal p d = p + d / 8 ∧ rErr p d = 0 := by
  have : rErr p d = 0 := by unfold rErr; rw [if_neg h, if_neg h2]
  unfold rVal; rw [this]; exact ⟨rfl, rfl⟩
/-- what Make gives of a moved pointer's parts. -/
theorem moved (p c : Int) (hf : Formed p) (h0 : 0 ≤ p) (h1 : 1 ≤ p % 4294967296 + c) :
    mVal ((p % 4294967296 + c) * 8) (pGen p) (pKnd p) = rVal p (c * 8) ∧ mErr ((p % 4294967296 + c) * 8) (pGen p) (pKnd p) = rErr p (c * 8) := by
  have hp := parts p
  have hnb : ¬ bad ((p % 4294967296 + c) * 8) (pGen p) (pKnd p) := by unfold bad pGen pKnd; unfold Formed at hf; omega
  have hnb2 : ¬ (¬ Formed p ∨ c * 8 % 8 ≠ 0) := by
    rintro (h | h)
    · exact h hf
    · omega
  have e8 : c * 8 / 8 = c := by omega
  by_cases h8 : 4294967295 < p % 4294967296 + c
  · have hm := m_far hnb (by omega)
    have hr := r_far (p := p) (d := c * 8) hnb2 (by rw [e8]; omega)
    rw [hm.1, hm.2, hr.1, hr.2]; exact ⟨rfl, rfl⟩
  · have hm := m_ok hnb (by omega)
    have hr := r_ok (p := p) (d := c * 8) hnb2 (by rw [e8]; omega)
    rw [hm.1, hm.2, hr.1, hr.2]
    refine ⟨?_, rfl⟩
    unfold pGen pKnd
    unfold Formed at hf
    omega
theorem rVal_range (p d : Int) (h0 : 0 ≤ p ∧ p ≤ 18446744073709551615) : 0 ≤ rVal p d ∧ rVal p d ≤ 18446744073709551615 := by
  unfold rVal rErr
  by_cases h : ¬ Formed p ∨ d % 8 ≠ 0
  · rw [if_pos h]; simp
  · rw [if_neg h]
    have hf : Formed p := Classical.byContradiction fun hn => h (.inl hn)
    by_cases h2 : p % 4294967296 + d / 8 < 1 ∨ 4294967295 < p % 4294967296 + d / 8
    · rw [if_pos h2]; simp
    · rw [if_neg h2, if_pos rfl]
      unfold Formed at hf
      omega
theorem r_zero {p d : Int} (h : rErr p d = 0) : Formed p ∧ d % 8 = 0 ∧ 1 ≤ p % 4294967296 + d / 8 ∧ p % 4294967296 + d / 8 ≤ 4294967295 ∧ rVal p d = p + d / 8 := by
  have hv : rVal p d = p + d / 8 := if_pos h
  unfold rErr at h
  by_cases hb : ¬ Formed p ∨ d % 8 ≠ 0
  · rw [if_pos hb] at h; omega
  · rw [if_neg hb] at h
    by_cases hfar : p % 4294967296 + d / 8 < 1 ∨ 4294967295 < p % 4294967296 + d / 8
    · rw [if_pos hfar] at h; omega
    · refine ⟨Classical.byContradiction fun hn => hb (.inl hn), Classical.byContradiction fun hn => hb (.inr hn), ?_, ?_, hv⟩ <;> omega
theorem r_small (p d : Int) (h0 : 0 ≤ p) (h1 : p ≤ 18446744073709551615) (h : rErr p d = 0) : -36028797018963968 ≤ d ∧ d ≤ 36028797018963967 := by
  obtain ⟨_, h8, ha, hb, _⟩ := r_zero h
  omega
/-- a pointer that was moved, and back. -/
theorem r_back (p d : Int) (h0 : 0 ≤ p) (h1 : p ≤ 18446744073709551615) (h : rErr p d = 0) :
    rVal (rVal p d) (-d) = p ∧ rErr (rVal p d) (-d) = 0 ∧ pGen (rVal p d) = pGen p ∧ pKnd (rVal p d) = pKnd p ∧ pOff (rVal p d) = pOff p + d := by
  obtain ⟨hf, h8, ha, hb, hv⟩ := r_zero h
  rw [hv]
  have hp := parts p
  unfold Formed at hf
  have hq : Formed (p + d / 8) := by unfold Formed; omega
  have hnb : ¬ (¬ Formed (p + d / 8) ∨ -d % 8 ≠ 0) := by
    rintro (hn | hn)
    · exact hn hq
    · omega
  have hr := r_ok (p := p + d / 8) (d := -d) hnb (by omega)
  rw [hr.1, hr.2]
  unfold pGen pKnd pOff
  refine ⟨?_, rfl, ?_, ?_, ?_⟩ <;> omega
theorem r_twice (p a b : Int) (h0 : 0 ≤ p) (h1 : p ≤ 18446744073709551615) (h : rErr p (8 * a) = 0) :
    rErr (rVal p (8 * a)) (8 * b) = rErr p (8 * (a + b)) ∧ rVal (rVal p (8 * a)) (8 * b) = rVal p (8 * (a + b)) := by
  obtain ⟨hf, h8, ha, hb, hv⟩ := r_zero h
  rw [hv]
  have hp := parts p
  have hf' := hf
  unfold Formed at hf
  have e1 : 8 * a / 8 = a := by omega
  have hq : Formed (p + 8 * a / 8) := by unfold Formed; omega
  have hnb : ¬ (¬ Formed (p + 8 * a / 8) ∨ 8 * b % 8 ≠ 0) := by
    rintro (hn | hn)
    · exact hn hq
    · omega
  have hnb2 : ¬ (¬ Formed p ∨ 8 * (a + b) % 8 ≠ 0) := by
    rintro (hn | hn)
    · exact hn hf'
    · omega
  by_cases hr : (p + 8 * a / 8) % 4294967296 + 8 * b / 8 < 1 ∨ 4294967295 < (p + 8 * a / 8) % 4294967296 + 8 * b / 8
  · have x1 := r_far (p := p + 8 * a / 8) (d := 8 * b) hnb hr
    have x2 := r_far (p := p) (d := 8 * (a + b)) hnb2 (by omega)
    rw [x1.1, x1.2, x2.1, x2.2]; exact ⟨rfl, rfl⟩
  · have x1 := r_ok (p := p + 8 * a / 8) (d := 8 * b) hnb hr
    have x2 := r_ok (p := p) (d := 8 * (a + b)) hnb2 (by omega)
    rw [x1.1, x1.2, x2.1, x2.2]
    refine ⟨rfl, ?_⟩
    omega
theorem m_small (o g k : Int) (h : mErr o g k = 0) : o ≤ 34359738367 := by
  unfold mErr at h
  by_cases hb : bad o g k
  · rw [if_pos hb] at h; omega
  · rw [if_neg hb] at h
    by_cases h8 : 4294967295 < o / 8
    · rw [if_pos h8] at h; omega
    · omega
end Go.Proofs.YtkngmanfekcjmaaDoor.PM
