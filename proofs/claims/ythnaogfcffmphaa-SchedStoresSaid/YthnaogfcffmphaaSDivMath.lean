/-
  ARITHMETIC under bits.Div64 at a divisor below 2^32. No model's run in this text.
-/
import Derived.Lib.Hide
import Derived.Laws.BitsAllLaws
import Derived.Lib.BitFns
set_option linter.unusedVariables false
set_option linter.unusedSimpArgs false
namespace Go.Proofs.Ythnaogfcffmphaa.Sched
open Go Go.Proofs
theorem lt_bitLen : ∀ x : Nat, x < 18446744073709551616 → x < 2 ^ Lib.bitLen x := by
  intro x
  induction x using Nat.strongRecOn with
  | ind x ih =>
    intro hx
    rcases Nat.eq_zero_or_pos x with h | h
    · subst h; exact Nat.two_pow_pos _
    · rw [Lib.bitLen_half x (by omega) hx, Nat.pow_add]
      have := ih (x / 2) (by omega) (by omega)
      omega
theorem bitLen_le : ∀ (n x : Nat), x < 2 ^ n → x < 18446744073709551616 → Lib.bitLen x ≤ n
  | 0, x, h, _ => by
    have : x = 0 := by simpa using h
    subst this; exact Nat.le_of_eq rfl
  | n + 1, x, h, hx => by
    rcases Nat.eq_zero_or_pos x with h0 | h0
    · subst h0; exact Nat.zero_le _
    · rw [Lib.bitLen_half x (by omega) hx]
      have := bitLen_le n (x / 2) (by rw [Nat.pow_succ] at h; omega) (by omega)
      omega
theorem bitLen_pos {x : Nat} (h : 0 < x) (hx : x < 18446744073709551616) : 1 ≤ Lib.bitLen x := by rw [Lib.bitLen_half x (by omega) hx]; omega
theorem sub_mod64 (A QY Z t1 : Nat) (big : A + t1 = QY + Z) (hZ : Z < 18446744073709551616) : ((((A % 18446744073709551616 + t1) % 18446744073709551616 : Nat) : Int) - ((QY % 18446744073709551616 : Nat) : Int)) % 18446744073709551616 = (Z : Int) := by
  rw [Nat.mod_add_mod, Int.natCast_emod, Int.natCast_emod]
  have h1 := Int.sub_emod ((A + t1 : Nat) : Int) (QY : Int) 18446744073709551616
  have h2 : ((A + t1 : Nat) : Int) - (QY : Int) = (Z : Int) := by rw [big]; omega
  rw [h2] at h1
  have h3 : (Z : Int) % 18446744073709551616 = (Z : Int) := Int.emod_eq_of_lt (by omega) (by omega)
  rw [h3] at h1
  exact h1.symm
theorem wrap_sub (A QY Z t1 UU V W : Nat) (hUU : A % 18446744073709551616 = UU) (hV : (UU + t1) % 18446744073709551616 = V) (hW : QY % 18446744073709551616 = W) (big : A + t1 = QY + Z) (hZ : Z < 18446744073709551616) : IntKind.u64.wrap ((V : Int) - (W : Int)) = (Z : Int) := by
  subst hUU hV hW
  rw [IntKind.wrap_u64]
  exact sub_mod64 _ _ _ _ big hZ
structure DivMath (hi lo y s k Y y1 H l1 U T t1 q1 r1 P1 Z q0 r0 P0 : Nat) : Prop where
  eY : y * 2 ^ s = Y
  lY : Y < 18446744073709551616
  ey1 : Y = y1 * 4294967296
  py1 : 0 < y1
  eH : hi * 2 ^ s = H
  lH : H < 18446744073709551616
  el1 : lo / 2 ^ k = l1
  eU : H ||| l1 = U
  lU : U < Y
  eT : lo * 2 ^ s % 18446744073709551616 = T
  et1 : T = t1 * 4294967296
  eq1 : U / y1 = q1
  lq1 : q1 < 4294967296
  eP1 : q1 * y1 = P1
  er1 : U = P1 + r1
  lr1 : r1 < y1
  eZ : r1 * 4294967296 + t1 = Z
  lZ : Z < Y
  big : U * 4294967296 + t1 = q1 * Y + Z
  eq0 : Z / y1 = q0
  lq0 : q0 < 4294967296
  eP0 : q0 * y1 = P0
  er0 : Z = P0 + r0
  lr0 : r0 < y1
  res : (hi * 18446744073709551616 + lo) / y = q1 * 4294967296 + q0
theorem div_math (hi lo y s k : Nat) (hlt : hi < y) (hy : y < 2 ^ k) (hlo : lo < 18446744073709551616) (hs : s + k = 64) (hs1 : 32 ≤ s) : ∃ Y y1 H l1 U T t1 q1 r1 P1 Z q0 r0 P0, DivMath hi lo y s k Y y1 H l1 U T t1 q1 r1 P1 Z q0 r0 P0 := by
  obtain ⟨a, ha⟩ : ∃ a, 2 ^ (s - 32) = a := ⟨_, rfl⟩
  obtain ⟨c, hc⟩ : ∃ c, 2 ^ k = c := ⟨_, rfl⟩
  have ha1 : 0 < a := by rw [← ha]; exact Nat.two_pow_pos _
  have hc1 : 0 < c := by rw [← hc]; exact Nat.two_pow_pos _
  have hac : a * c = 4294967296 := by rw [← ha, ← hc, ← Nat.pow_add, show s - 32 + k = 32 by omega]
  have h2s : 2 ^ s = a * 4294967296 := by
    rw [← ha, show (4294967296 : Nat) = 2 ^ 32 from rfl, ← Nat.pow_add, show s - 32 + 32 = s by omega]
  rw [hc] at hy
  have hya : y * a < 4294967296 := by
    have : y * a < c * a := Nat.mul_lt_mul_of_pos_right hy ha1
    rw [Nat.mul_comm c a, hac] at this; exact this
  have hhia : hi * a + a ≤ y * a := by
    have : (hi + 1) * a ≤ y * a := Nat.mul_le_mul_right _ hlt
    rw [Nat.add_mul, Nat.one_mul] at this; exact this
  have hl1 : lo / c < a * 4294967296 := by
    apply Nat.div_lt_of_lt_mul
    have : c * (a * 4294967296) = 18446744073709551616 := by rw [← Nat.mul_assoc, Nat.mul_comm c a, hac]
    omega
  have hlm : lo % c * a < 4294967296 := by
    have : lo % c * a < c * a := Nat.mul_lt_mul_of_pos_right (Nat.mod_lt _ hc1) ha1
    rw [Nat.mul_comm c a, hac] at this; exact this
  have hlod : c * (lo / c) + lo % c = lo := Nat.div_add_mod lo c
  obtain ⟨y1, hy1⟩ : ∃ y1, y * a = y1 := ⟨_, rfl⟩
  obtain ⟨h1, hh1⟩ : ∃ h1, hi * a = h1 := ⟨_, rfl⟩
  obtain ⟨l1, hl1e⟩ : ∃ l1, lo / c = l1 := ⟨_, rfl⟩
  obtain ⟨lm, hlme⟩ : ∃ lm, lo % c = lm := ⟨_, rfl⟩
  obtain ⟨t1, ht1⟩ : ∃ t1, lm * a = t1 := ⟨_, rfl⟩
  rw [hlme] at hlm hlod
  rw [ht1] at hlm
  rw [hl1e] at hl1 hlod
  rw [hy1] at hya hhia
  rw [hh1] at hhia
  have hy1p : 0 < y1 := by rw [← hy1]; exact Nat.mul_pos (by omega) ha1
  have eor : h1 * 4294967296 ||| l1 = h1 * 4294967296 + l1 := nat_join s _ _ (by rw [h2s, ← hh1, Nat.mul_assoc]; exact Nat.mul_mod_left _ _) (by rw [h2s]; exact hl1)
  have hUY : h1 * 4294967296 + l1 < y1 * 4294967296 := by
    have : (h1 + a) * 4294967296 ≤ y1 * 4294967296 := Nat.mul_le_mul_right _ hhia
    rw [Nat.add_mul] at this; omega
  have eT : lo * 2 ^ s % 18446744073709551616 = t1 * 4294967296 := by
    have e1 : lo * 2 ^ s = l1 * 18446744073709551616 + t1 * 4294967296 := by
      rw [h2s, ← hlod, Nat.add_mul, ← ht1, Nat.mul_comm c l1, Nat.mul_assoc l1 c, ← Nat.mul_assoc c a, Nat.mul_comm c a, hac, Nat.mul_assoc lm a]
    rw [e1]; omega
  obtain ⟨U, hU⟩ : ∃ U, h1 * 4294967296 + l1 = U := ⟨_, rfl⟩
  rw [hU] at eor hUY
  have d1 := Nat.div_add_mod U y1
  have m1 := Nat.mod_lt U hy1p
  obtain ⟨q1, hq1⟩ : ∃ q1, U / y1 = q1 := ⟨_, rfl⟩
  obtain ⟨r1, hr1⟩ : ∃ r1, U % y1 = r1 := ⟨_, rfl⟩
  have lq1 : q1 < 4294967296 := by rw [← hq1]; exact Nat.div_lt_of_lt_mul hUY
  rw [hq1, hr1] at d1
  rw [hr1] at m1
  have hZ : r1 * 4294967296 + t1 < y1 * 4294967296 := by
    have : (r1 + 1) * 4294967296 ≤ y1 * 4294967296 := Nat.mul_le_mul_right _ m1
    rw [Nat.add_mul] at this; omega
  obtain ⟨Z, hZe⟩ : ∃ Z, r1 * 4294967296 + t1 = Z := ⟨_, rfl⟩
  rw [hZe] at hZ
  have d0 := Nat.div_add_mod Z y1
  have m0 := Nat.mod_lt Z hy1p
  obtain ⟨q0, hq0⟩ : ∃ q0, Z / y1 = q0 := ⟨_, rfl⟩
  obtain ⟨r0, hr0⟩ : ∃ r0, Z % y1 = r0 := ⟨_, rfl⟩
  have lq0 : q0 < 4294967296 := by rw [← hq0]; exact Nat.div_lt_of_lt_mul hZ
  rw [hq0, hr0] at d0
  rw [hr0] at m0
  rw [Nat.mul_comm] at d1 d0
  have big : U * 4294967296 + t1 = q1 * (y1 * 4294967296) + Z := by
    rw [← d1, Nat.add_mul, ← hZe, Nat.mul_assoc]; omega
  refine ⟨y1 * 4294967296, y1, h1 * 4294967296, l1, U, t1 * 4294967296, t1, q1, r1, q1 * y1, Z, q0, r0, q0 * y1, ?_⟩
  refine ⟨by rw [h2s, ← hy1, Nat.mul_assoc], by omega, rfl, hy1p, by rw [h2s, ← hh1, Nat.mul_assoc], by omega, by rw [hc]; exact hl1e, eor, hUY, eT, rfl, hq1, lq1, rfl, by omega, m1, hZe, hZ, big, hq0, lq0, rfl, by omega, m0, ?_⟩
  have key : (hi * 18446744073709551616 + lo) * a = y1 * (q1 * 4294967296 + q0) + r0 := by
    have e1 : lo * a = l1 * 4294967296 + t1 := by
      rw [← hlod, Nat.add_mul, ht1, Nat.mul_comm c l1, Nat.mul_assoc l1 c, Nat.mul_comm c a, hac]
    rw [Nat.add_mul, e1, Nat.mul_right_comm, hh1]
    have e2 : y1 * (q1 * 4294967296 + q0) = q1 * (y1 * 4294967296) + q0 * y1 := by
      rw [Nat.mul_add, Nat.mul_comm y1 q0, ← Nat.mul_assoc, Nat.mul_comm y1 q1, Nat.mul_assoc]
    rw [e2]
    have e3 : h1 * 18446744073709551616 = h1 * 4294967296 * 4294967296 := by rw [Nat.mul_assoc]
    rw [e3]
    have e4 : (h1 * 4294967296 + l1) * 4294967296 = h1 * 4294967296 * 4294967296 + l1 * 4294967296 := Nat.add_mul _ _ _
    rw [hU] at e4
    rw [← Nat.add_assoc, ← e4, big, ← d0, Nat.add_assoc]
  have hN : (hi * 18446744073709551616 + lo) * a / (y * a) = (hi * 18446744073709551616 + lo) / y := Nat.mul_div_mul_right _ _ ha1
  rw [← hN, key, hy1, Nat.mul_add_div hy1p, Nat.div_eq_of_lt m0, Nat.add_zero]
end Go.Proofs.Ythnaogfcffmphaa.Sched
