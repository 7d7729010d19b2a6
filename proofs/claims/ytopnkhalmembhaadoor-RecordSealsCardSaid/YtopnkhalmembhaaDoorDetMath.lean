/-
  A BURST OF AT MOST 32 BITS CHANGES THE CHECKSUM. Plain numbers, no program.
-/
import Derived.Test.YtopnkhalmembhaaDoorBurst
set_option linter.unusedVariables false
set_option linter.unusedSimpArgs false
namespace Go.Proofs.YtopnkhalmembhaaDoor.CrcMath
theorem xor_mul (a b m : Nat) : (a ^^^ b) * 2 ^ m = a * 2 ^ m ^^^ b * 2 ^ m := by
  rw [← Nat.shiftLeft_eq, ← Nat.shiftLeft_eq, ← Nat.shiftLeft_eq, Nat.shiftLeft_xor_distrib]
/-- The first k bytes as one number. -/
def vt (zs : List Int) : Nat → Nat
  | 0 => 0
  | k + 1 => vt zs k ^^^ (zs.getD k 0).toNat * 2 ^ (8 * k)
theorem upd_vt (r : Nat) (zs : List Int) : ∀ k, k ≤ zs.length → upd r (zs.take k) = Tn (8 * k) (r ^^^ vt zs k) := by
  intro k
  induction k with
  | zero => intro _; simp [vt, upd, Tn]
  | succ k ih =>
    intro h
    rw [upd_snoc r zs k (by omega), ih (by omega)]
    unfold sb
    rw [shift_step, Nat.xor_assoc]
    rfl
theorem vt_set (zs : List Int) (i y : Nat) (hi : i < zs.length) : ∀ n, vt (zs.set i (y : Int)) n = if i < n then vt zs n ^^^ ((zs.getD i 0).toNat ^^^ y) * 2 ^ (8 * i) else vt zs n := by
  intro n
  induction n with
  | zero => rfl
  | succ n ih =>
    have hg : (zs.set i (y : Int)).getD n 0 = if i = n then (y : Int) else zs.getD n 0 := by
      simp only [List.getD, List.getElem?_set]
      by_cases h : i = n
      · subst h; simp [hi]
      · simp [h]
    rw [vt, ih, hg, vt]
    by_cases h : i = n
    · subst h
      rw [if_neg (Nat.lt_irrefl _), if_pos rfl, if_pos (Nat.lt_succ_self _), xor_mul, Nat.xor_assoc, ← Nat.xor_assoc ((zs.getD i 0).toNat * _) _ _, Nat.xor_self, Nat.zero_xor, Int.toNat_natCast]
    · rw [if_neg h]
      by_cases h2 : i < n
      · rw [if_pos h2, if_pos (by omega), Nat.xor_assoc, Nat.xor_assoc, Nat.xor_comm (_ * _) (_ * _)]
      · rw [if_neg h2, if_neg (by omega)]
theorem vt_flp (zs : List Int) (k n : Nat) (hk : k / 8 < zs.length) (hn : k / 8 < n) : vt (flp zs k) n = vt zs n ^^^ 2 ^ k := by
  unfold flp
  rw [vt_set _ _ _ hk, if_pos hn, ← Nat.xor_assoc (zs.getD (k / 8) 0).toNat, Nat.xor_self, Nat.zero_xor, ← Nat.pow_add, show k % 8 + 8 * (k / 8) = k by omega]
theorem T_ne {x : Nat} (h : x < 4294967296) (h0 : x ≠ 0) : T x ≠ 0 := by
  unfold T
  by_cases hx : x % 2 = 1
  · rw [if_pos hx]
    intro h2
    have h3 : x / 2 = 2197175160 := by
      have := congrArg (fun q => q ^^^ 2197175160) h2
      simp only [Nat.xor_assoc, Nat.xor_self, Nat.xor_zero, Nat.zero_xor] at this
      exact this
    omega
  · rw [if_neg hx, Nat.xor_zero]; omega
theorem Tn_ne (m : Nat) : ∀ {x : Nat}, x < 4294967296 → x ≠ 0 → Tn m x ≠ 0 := by
  induction m with
  | zero => intro x _ h; exact h
  | succ m ih => intro x h h0; rw [Tn_succ]; exact T_ne (Tn_lt m h) (ih h h0)
theorem burst_claim (zs : List Int) (bit : Int) (pat : Nat) : ∀ j : Nat, ∃ P, P < 2 ^ ((bit + (j : Int)).toNat - bit.toNat) ∧ vt (brs zs bit pat j) zs.length = vt zs zs.length ^^^ P * 2 ^ bit.toNat ∧ (P = 0 → brs zs bit pat j = zs) ∧ (P ≠ 0 → bit.toNat ≤ 8 * zs.length) := by
  intro j
  induction j with
  | zero => exact ⟨0, Nat.two_pow_pos _, by simp [brs], fun _ => rfl, fun h => absurd rfl h⟩
  | succ j ih =>
    obtain ⟨P, h1, h2, h3, h4⟩ := ih
    unfold brs
    by_cases hh : hit zs.length bit pat j
    · rw [if_pos hh]
      obtain ⟨_, g1, g2⟩ := hh
      obtain ⟨e, he⟩ : ∃ e, (bit + (j : Int)).toNat - bit.toNat = e := ⟨_, rfl⟩
      have he1 : (bit + ((j + 1 : Nat) : Int)).toNat - bit.toNat = e + 1 := by omega
      have he2 : (bit + (j : Int)).toNat = e + bit.toNat := by omega
      rw [he] at h1
      have hs := split_xor P 1 e h1
      rw [Nat.one_mul] at hs
      refine ⟨P + 2 ^ e, ?_, ?_, ?_, ?_⟩
      · rw [he1, Nat.pow_succ]; omega
      · rw [vt_flp _ _ _ (by rw [brs_len]; omega) (by omega), h2, he2, Nat.pow_add, Nat.xor_assoc, ← xor_mul, hs]
      · intro h; have := Nat.two_pow_pos e; omega
      · intro _; omega
    · rw [if_neg hh]
      refine ⟨P, Nat.lt_of_lt_of_le h1 (Nat.pow_le_pow_right (by omega) (by omega)), h2, h3, h4⟩
theorem detects (zs : List Int) (bit : Int) (pat : Nat) (hz : ∀ z ∈ zs, 0 ≤ z ∧ z ≤ 255) (hb : ∀ z ∈ brs zs bit pat 32, 0 ≤ z ∧ z ≤ 255) : crcN 0 (brs zs bit pat 32) = crcN 0 zs ↔ brs zs bit pat 32 = zs := by
  refine ⟨fun h => ?_, fun h => by rw [h]⟩
  obtain ⟨P, h1, h2, h3, h4⟩ := burst_claim zs bit pat 32
  by_cases h0 : P = 0
  · exact h3 h0
  · exfalso
    have hP : P < 4294967296 := by
      have : 2 ^ ((bit + ((32 : Nat) : Int)).toNat - bit.toNat) ≤ 2 ^ 32 := Nat.pow_le_pow_right (by omega) (by omega)
      omega
    have l1 := upd_lt zs (r := 4294967295) (by omega) hz
    have l2 := upd_lt (brs zs bit pat 32) (r := 4294967295) (by omega) hb
    unfold crcN at h
    rw [Nat.sub_zero] at h
    have hu : upd 4294967295 (brs zs bit pat 32) = upd 4294967295 zs := by omega
    have e1 := upd_vt 4294967295 zs zs.length (Nat.le_refl _)
    have e2 := upd_vt 4294967295 (brs zs bit pat 32) zs.length (by rw [brs_len]; omega)
    rw [List.take_of_length_le (Nat.le_refl _)] at e1
    rw [List.take_of_length_le (by rw [brs_len]; omega), h2, ← Nat.xor_assoc, Tn_xor, ← e1, hu] at e2
    have e3 : Tn (8 * zs.length) (P * 2 ^ bit.toNat) = 0 := by
      have := congrArg (fun q => upd 4294967295 zs ^^^ q) e2
      simp only [← Nat.xor_assoc, Nat.xor_self, Nat.zero_xor] at this
      exact this.symm
    have hs := h4 h0
    rw [show 8 * zs.length = bit.toNat + (8 * zs.length - bit.toNat) by omega, Tn_add, Tn_shift] at e3
    exact Tn_ne _ hP h0 e3
end Go.Proofs.YtopnkhalmembhaaDoor.CrcMath
