/-
  PLAIN FACTS ON BIT FIELDS OF 64-BIT WORDS, by bits (no program in it).
  No condition.
-/
import Derived.Laws.BitsAllLaws
namespace Go.Proofs.Ytgfiddjlbjlolaa.WordMath
/-- a field of W. -/
def fld (W X Y : Nat) : Nat := W / 2 ^ X % 2 ^ Y
def msk (X Y : Nat) : Nat := (2 ^ Y - 1) * 2 ^ X
def sfd (W X Y V : Nat) : Nat := (W &&& (18446744073709551615 - msk X Y)) ||| ((V * 2 ^ X % 18446744073709551616) &&& msk X Y)

theorem msk_lt (X Y : Nat) (h : X + Y ≤ 64) : msk X Y < 2 ^ 64 := by
  unfold msk
  have h1 : 2 ^ Y - 1 < 2 ^ Y := Nat.sub_lt (Nat.two_pow_pos Y) (by omega)
  calc (2 ^ Y - 1) * 2 ^ X < 2 ^ Y * 2 ^ X := Nat.mul_lt_mul_of_pos_right h1 (Nat.two_pow_pos X)
    _ = 2 ^ (Y + X) := (Nat.pow_add 2 Y X).symm
    _ ≤ 2 ^ 64 := Nat.pow_le_pow_right (by omega) (by omega)
theorem msk_bit (X Y i : Nat) : (msk X Y).testBit i = (decide (X ≤ i) && decide (i - X < Y)) := by
  unfold msk
  rw [← Nat.shiftLeft_eq, Nat.testBit_shiftLeft, Nat.testBit_two_pow_sub_one]
theorem mul_pow_bit (V X i : Nat) : (V * 2 ^ X).testBit i = (decide (X ≤ i) && V.testBit (i - X)) := by
  rw [← Nat.shiftLeft_eq, Nat.testBit_shiftLeft]
theorem sfd_bit (W X Y V i : Nat) (h : X + Y ≤ 64) (hi : i < 64) : (sfd W X Y V).testBit i = if X ≤ i ∧ i - X < Y then V.testBit (i - X) else W.testBit i := by
  unfold sfd
  have e : (18446744073709551615 - msk X Y) = 2 ^ 64 - (msk X Y + 1) := by omega
  have e2 : (18446744073709551616 : Nat) = 2 ^ 64 := rfl
  rw [e, e2, Nat.testBit_or, Nat.testBit_and, Nat.testBit_and, Nat.testBit_two_pow_sub_succ (msk_lt X Y h), msk_bit, Nat.testBit_mod_two_pow, mul_pow_bit]
  by_cases h1 : X ≤ i <;> by_cases h2 : i - X < Y <;> simp [h1, h2, hi]
theorem sfd_lt (W X Y V : Nat) (h : W < 2 ^ 64) (h2 : X + Y ≤ 64) : sfd W X Y V < 2 ^ 64 := by
  unfold sfd
  exact Nat.or_lt_two_pow (Nat.lt_of_le_of_lt Nat.and_le_left h) (Nat.lt_of_le_of_lt Nat.and_le_right (msk_lt X Y h2))
theorem fld_bit (W X Y i : Nat) : (fld W X Y).testBit i = (decide (i < Y) && W.testBit (X + i)) := by
  unfold fld
  rw [Nat.testBit_mod_two_pow, Nat.testBit_div_two_pow, Nat.add_comm]
theorem fld_lt (W X Y : Nat) : fld W X Y < 2 ^ Y := Nat.mod_lt _ (Nat.two_pow_pos _)
/-- what was set is read back. -/
theorem fld_sfd (W X Y V : Nat) (h : X + Y ≤ 64) : fld (sfd W X Y V) X Y = V % 2 ^ Y := by
  apply Nat.eq_of_testBit_eq
  intro i
  rw [fld_bit, Nat.testBit_mod_two_pow]
  by_cases hi : i < Y
  · rw [sfd_bit _ _ _ _ _ h (by omega), if_pos (by omega)]; simp
  · simp [hi]
/-- setting it back gives the word back. -/
theorem sfd_back (W X Y V : Nat) (h : X + Y ≤ 64) (hW : W < 2 ^ 64) : sfd (sfd W X Y V) X Y (fld W X Y) = W := by
  apply Nat.eq_of_testBit_eq
  intro i
  by_cases hi : i < 64
  · rw [sfd_bit _ _ _ _ _ h hi]
    split
    · rename_i hc
      rw [fld_bit]; simp [hc.2]; congr 1; omega
    · rename_i hc
      rw [sfd_bit _ _ _ _ _ h hi, if_neg hc]
  · rw [Nat.testBit_lt_two_pow (Nat.lt_of_lt_of_le (sfd_lt _ X Y _ (sfd_lt W X Y V hW h) h) (Nat.pow_le_pow_right (by omega) (by omega))), Nat.testBit_lt_two_pow (Nat.lt_of_lt_of_le hW (Nat.pow_le_pow_right (by omega) (by omega)))]
theorem fld_one (W i : Nat) : fld W i 1 = (W.testBit i).toNat := by
  unfold fld; rw [Nat.testBit_eq_decide_div_mod_eq]
  have := Nat.mod_two_eq_zero_or_one (W / 2 ^ i)
  rcases this with h | h <;> simp [h]
/-- the other bits stay. -/
theorem fld_other (W X Y V o : Nat) (h : X + Y ≤ 64) (ho : o < 64) (hc : ¬ (X ≤ o ∧ o - X < Y)) : fld (sfd W X Y V) o 1 = fld W o 1 := by
  rw [fld_one, fld_one, sfd_bit _ _ _ _ _ h ho, if_neg hc]
/-- bit by bit, from the top: a field. -/
theorem fld_step (W X Y i : Nat) (hi : i < Y) : fld W (X + i) (Y - i) = 2 * fld W (X + (i + 1)) (Y - (i + 1)) + W / 2 ^ (X + i) % 2 := by
  unfold fld
  obtain ⟨m, rfl⟩ : ∃ m, Y = i + 1 + m := ⟨Y - (i + 1), by omega⟩
  have e1 : i + 1 + m - i = m + 1 := by omega
  have e2 : i + 1 + m - (i + 1) = m := by omega
  rw [e1, e2, Nat.pow_succ 2 m, Nat.mul_comm (2 ^ m) 2, Nat.mod_mul, ← Nat.add_assoc X i 1, Nat.pow_succ 2 (X + i), ← Nat.div_div_eq_div_mul]
  omega
theorem half_step (S i : Nat) : S / 2 ^ i = 2 * (S / 2 ^ (i + 1)) + (S.testBit i).toNat := by
  rw [Nat.pow_succ, ← Nat.div_div_eq_div_mul, Nat.testBit_eq_decide_div_mod_eq]
  have := Nat.mod_two_eq_zero_or_one (S / 2 ^ i)
  rcases this with h | h <;> simp [h] <;> omega
theorem bit_mod (W i : Nat) : W / 2 ^ i % 2 = (W.testBit i).toNat := by
  rw [← fld_one]; rfl
end Go.Proofs.Ytgfiddjlbjlolaa.WordMath
