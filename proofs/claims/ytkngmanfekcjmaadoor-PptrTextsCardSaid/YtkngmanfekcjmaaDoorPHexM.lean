/-
  HEXADECIMAL DIGITS, as lists of bytes.
-/
import Derived.Test.YtkngmanfekcjmaaDoorPRpar
set_option linter.unusedVariables false
set_option linter.unusedSimpArgs false
namespace Go.Proofs.YtkngmanfekcjmaaDoor.PM
open Go.Lib Go.Proofs.YtkngmanfekcjmaaDoor.Base
/-- a hexadecimal digit. -/
def hx (i : Nat) : UInt8 := if i < 10 then UInt8.ofNat (48 + i) else UInt8.ofNat (87 + i)
/-- the n lowest hexadecimal digits, the highest ahead. -/
def hexN : Nat → Nat → List UInt8
  | 0, _ => []
  | n + 1, u => hexN n (u / 16) ++ [hx (u % 16)]
theorem hexN_length (n u : Nat) : (hexN n u).length = n := by
  induction n generalizing u with
  | zero => rfl
  | succ n ih => rw [hexN, List.length_append, ih]; rfl
theorem hexN_at (n u t : Nat) (h : t < n) : (hexN n u)[n - 1 - t]? = some (hx (u / 16 ^ t % 16)) := by
  induction n generalizing u t with
  | zero => omega
  | succ n ih =>
    rw [hexN]
    cases t with
    | zero =>
      rw [List.getElem?_append_right (by rw [hexN_length]; omega), hexN_length]
      simp
    | succ t =>
      rw [List.getElem?_append_left (by rw [hexN_length]; omega), show n + 1 - 1 - (t + 1) = n - 1 - t by omega, ih (u / 16) t (by omega), Nat.div_div_eq_div_mul, Nat.pow_succ, Nat.mul_comm]
theorem hexN_zero (n : Nat) : hexN n 0 = List.replicate n 48 := by
  induction n with
  | zero => rfl
  | succ n ih => rw [hexN, Nat.zero_div, ih, List.replicate_succ']; rfl
/-- zeros ahead. -/
theorem hexN_pad (m n u : Nat) (h : u < 16 ^ n) : hexN (m + n) u = List.replicate m 48 ++ hexN n u := by
  induction n generalizing u with
  | zero =>
    have : u = 0 := by simpa using h
    subst this
    rw [Nat.add_zero, hexN_zero]; simp [hexN]
  | succ n ih =>
    rw [← Nat.add_assoc, hexN, hexN, ih (u / 16) (by rw [Nat.pow_succ] at h; omega), List.append_assoc]
theorem hexN_cons (n u : Nat) : hexN (n + 1) u = hx (u / 16 ^ n % 16) :: hexN n u := by
  induction n generalizing u with
  | zero => simp [hexN]
  | succ n ih =>
    rw [hexN, ih (u / 16), Nat.div_div_eq_div_mul]
    conv => rhs; rw [hexN]
    rw [List.cons_append, Nat.pow_succ, Nat.mul_comm 16]
/-- a word in hexadecimal, all its digits. -/
def hexL (p : Int) : List UInt8 := [48, 120] ++ hexN 16 p.toNat
/-- which is no pointer's text. -/
theorem hexL_spells (p : Int) (q : Int) : ¬ Spells (hexL p) q := by
  intro h
  obtain ⟨k, o, g, hk, ho, hg, hl, he, _⟩ := Spells.steps h
  have hk0 : k ≠ 0 := by
    intro h0
    subst h0
    have := m_bad (show bad (o : Int) (g : Int) ((0 : Nat) : Int) by unfold bad; omega)
    rw [this.2] at he
    omega
  obtain ⟨d1, d2, d3⟩ := dec_facts k
  have hh : (decDigits k).head? = some 48 := by
    cases hd : decDigits k with
    | nil => exact absurd hd d3
    | cons c t =>
      rw [hd] at hl
      unfold hexL at hl
      simp at hl
      simp [hl.1]
  rcases dec_head k with h1 | h1
  · by_cases h10 : k < 10
    · rw [dec_small h10] at hh
      have := congrArg UInt8.toNat (Option.some.inj hh)
      rw [ofNat_toNat _ (by omega)] at this
      simp at this
      omega
    · rw [decDigits_length, nDigits_big h10] at h1
      have := nDigits_pos (k / 10)
      omega
  · exact h1 hh
theorem hexL_length (p : Int) : (hexL p).length = 18 := by unfold hexL; rw [List.length_append, hexN_length]; rfl
end Go.Proofs.YtkngmanfekcjmaaDoor.PM
