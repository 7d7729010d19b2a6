/-
  BYTES AS LITTLE-ENDIAN WORDS. Plain lists of numbers, no program.
-/
import Derived.Laws.BitsAllLaws
set_option linter.unusedVariables false
set_option linter.unusedSimpArgs false
namespace Go.Proofs.YtopnkhalmembhaaDoor.PackMath
def le : List Int → Int
  | [] => 0
  | b :: bs => b + 256 * le bs
/-- Word j of the bytes zs. -/
def pkw (zs : List Int) (j : Nat) : Int := le ((zs.drop (8 * j)).take 8)
/-- n words. -/
def pks (zs : List Int) (n : Nat) : List Int := (List.range n).map (pkw zs)
theorem pks_len (zs : List Int) (n : Nat) : (pks zs n).length = n := by simp [pks]
theorem pks_at (zs : List Int) (n j : Nat) (h : j < n) : (pks zs n).getD j 0 = pkw zs j := by simp [pks, List.getD, h]
theorem le_snoc (bs : List Int) (b : Int) : le (bs ++ [b]) = le bs + b * 256 ^ bs.length := by
  induction bs with
  | nil => simp [le]
  | cons x bs ih =>
    simp only [List.cons_append, le, ih, List.length_cons, Int.pow_succ]
    rw [Int.mul_add, Int.add_assoc]; congr 2
    rw [Int.mul_comm 256 (b * _), Int.mul_assoc]
theorem le_range (bs : List Int) (h : ∀ b ∈ bs, 0 ≤ b ∧ b ≤ 255) : 0 ≤ le bs ∧ le bs < 256 ^ bs.length := by
  induction bs with
  | nil => simp [le]
  | cons x bs ih =>
    have hx := h x (by simp)
    have := ih (fun b hb => h b (by simp [hb]))
    simp only [le, List.length_cons, Int.pow_succ]
    omega
theorem le_nil_zero : le [] = 0 := rfl
theorem mem_sub {zs : List Int} {j : Nat} {b : Int} (h : b ∈ (zs.drop (8 * j)).take 8) : b ∈ zs := List.mem_of_mem_drop (List.mem_of_mem_take h)
theorem pow_le8 (n : Nat) (h : n ≤ 8) : (256 : Int) ^ n ≤ 18446744073709551616 := by
  have : (256 : Nat) ^ n ≤ 256 ^ 8 := Nat.pow_le_pow_right (by omega) h
  have h2 : ((256 ^ n : Nat) : Int) ≤ ((256 ^ 8 : Nat) : Int) := Int.ofNat_le.2 this
  simpa using h2
theorem pkw_range (zs : List Int) (j : Nat) (h : ∀ b ∈ zs, 0 ≤ b ∧ b ≤ 255) : 0 ≤ pkw zs j ∧ pkw zs j ≤ 18446744073709551615 := by
  have h1 := le_range ((zs.drop (8 * j)).take 8) (fun b hb => h b (mem_sub hb))
  have h2 := pow_le8 ((zs.drop (8 * j)).take 8).length (by rw [List.length_take]; omega)
  unfold pkw; omega
/-- One more byte: the word that it falls into. -/
theorem part_snoc (zs : List Int) (k : Nat) (h : k < zs.length) : ((zs.take (k + 1)).drop (8 * (k / 8))).take 8 = ((zs.take k).drop (8 * (k / 8))).take 8 ++ [zs.getD k 0] ∧ (((zs.take k).drop (8 * (k / 8))).take 8).length = k % 8 := by
  have hl : ((zs.take k).drop (8 * (k / 8))).length = k % 8 := by rw [List.length_drop, List.length_take]; omega
  have e0 : ((zs.take k).drop (8 * (k / 8))).take 8 = (zs.take k).drop (8 * (k / 8)) := List.take_of_length_le (by omega)
  have eg : zs.getD k 0 = zs[k] := by simp [List.getD, h]
  rw [e0]
  refine ⟨?_, hl⟩
  rw [List.take_succ_eq_append_getElem h, List.drop_append_of_le_length (by rw [List.length_take]; omega), List.take_of_length_le (by rw [List.length_append, hl]; simp; omega), eg]
theorem pkw_same (zs : List Int) (k : Nat) (h : k < zs.length) : pkw (zs.take (k + 1)) (k / 8) = pkw (zs.take k) (k / 8) + zs.getD k 0 * 256 ^ (k % 8) := by
  obtain ⟨h1, h2⟩ := part_snoc zs k h
  unfold pkw
  rw [h1, le_snoc, h2]
theorem pkw_small (zs : List Int) (k : Nat) (h : k < zs.length) (hz : ∀ b ∈ zs, 0 ≤ b ∧ b ≤ 255) : 0 ≤ pkw (zs.take k) (k / 8) ∧ pkw (zs.take k) (k / 8) < 256 ^ (k % 8) := by
  obtain ⟨_, h2⟩ := part_snoc zs k h
  have h1 := le_range (((zs.take k).drop (8 * (k / 8))).take 8) (fun b hb => hz b (List.mem_of_mem_take (mem_sub hb)))
  rw [h2] at h1
  exact h1
theorem pkw_other (zs : List Int) (k j : Nat) (h : k < zs.length) (hj : j ≠ k / 8) : pkw (zs.take (k + 1)) j = pkw (zs.take k) j := by
  unfold pkw
  congr 1
  apply List.ext_getElem?
  intro i
  by_cases hi : i < 8
  · simp only [List.getElem?_take, List.getElem?_drop, hi, if_true]
    by_cases h1 : 8 * j + i < k
    · rw [if_pos (by omega), if_pos h1]
    · rw [if_neg h1]
      have : ¬ (8 * j + i < k + 1) := by
        intro h2
        have : 8 * j + i = k := by omega
        apply hj; omega
      rw [if_neg this]
  · simp [List.getElem?_take, hi]
theorem pks_step (zs : List Int) (n k : Nat) (h : k < zs.length) (hn : k / 8 < n) : (pks (zs.take k) n).set (k / 8) (pkw (zs.take k) (k / 8) + zs.getD k 0 * 256 ^ (k % 8)) = pks (zs.take (k + 1)) n := by
  rw [← pkw_same zs k h]
  apply List.ext_getElem?
  intro i
  by_cases hi : i < n
  · rw [List.getElem?_set]
    by_cases hk : k / 8 = i
    · subst hk
      simp [pks, hn]
    · rw [if_neg hk]
      simp [pks, hi, pkw_other zs k i h (fun e => hk e.symm)]
  · rw [List.getElem?_eq_none (by rw [List.length_set, pks_len]; omega), List.getElem?_eq_none (by rw [pks_len]; omega)]
theorem pks_zero (n : Nat) : pks [] n = List.replicate n 0 := by
  apply List.ext_getElem?
  intro i
  by_cases hi : i < n
  · simp [pks, hi, pkw, le]
  · rw [List.getElem?_eq_none (by rw [pks_len]; omega), List.getElem?_eq_none (by simp; omega)]
theorem pks_grow (zs : List Int) (k : Nat) (h8 : k % 8 = 0) : pks (zs.take k) (k / 8) ++ [0] = pks (zs.take k) (k / 8 + 1) := by
  unfold pks
  rw [List.range_succ, List.map_append]
  congr 1
  have : pkw (zs.take k) (k / 8) = 0 := by
    unfold pkw
    rw [List.drop_of_length_le (by rw [List.length_take]; omega)]; rfl
  simp [this]
/-- The bytes b·256^r below the next byte's place: the two ways to add them. -/
theorem shl_byte (b r : Nat) (hb : b < 256) (hr : r < 8) : IntKind.u64.wrap ((b : Int) * 2 ^ (8 * r)) = ((b * 256 ^ r : Nat) : Int) ∧ b * 256 ^ r < 256 ^ (r + 1) ∧ (256 : Nat) ^ (r + 1) ≤ 18446744073709551616 := by
  have e : (256 : Nat) ^ r = 2 ^ (8 * r) := by rw [Nat.pow_mul]
  have h1 : b * 256 ^ r < 256 ^ (r + 1) := by
    rw [Nat.pow_succ, Nat.mul_comm]
    exact Nat.mul_lt_mul_of_pos_left hb (Nat.pow_pos (by omega))
  have h2 : (256 : Nat) ^ (r + 1) ≤ 256 ^ 8 := Nat.pow_le_pow_right (by omega) (by omega)
  have h3 : (256 : Nat) ^ 8 = 18446744073709551616 := by decide
  refine ⟨?_, h1, by omega⟩
  rw [IntKind.wrap_u64, e]
  rw [e] at h1
  have h4 : ((b : Int) * 2 ^ (8 * r)) = ((b * 2 ^ (8 * r) : Nat) : Int) := by simp
  rw [h4]; omega
theorem or_byte (W b r : Nat) (hW : W < 256 ^ r) (hb : b < 256) (hr : r < 8) : bits .or .u64 (W : Int) ((b * 256 ^ r : Nat) : Int) = ((W + b * 256 ^ r : Nat) : Int) := by
  obtain ⟨_, h2, h3⟩ := shl_byte b r hb hr
  have h4 : (256 : Nat) ^ r ≤ 256 ^ (r + 1) := Nat.pow_le_pow_right (by omega) (by omega)
  have e : (256 : Nat) ^ r = 2 ^ (8 * r) := by rw [Nat.pow_mul]
  rw [u64_or_nat _ _ (by omega) (by omega), Nat.or_comm, nat_join (8 * r) _ _ (by rw [e]; exact Nat.mul_mod_left _ _) (by omega), Nat.add_comm]
end Go.Proofs.YtopnkhalmembhaaDoor.PackMath
