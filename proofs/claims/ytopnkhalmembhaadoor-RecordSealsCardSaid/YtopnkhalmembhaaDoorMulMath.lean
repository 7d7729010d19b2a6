/-
  PRODUCTS OF REGISTERS AS POLYNOMIALS: multiplying by x^k is k bit steps; what a checksum's register makes of bytes is affine. Plain numbers.
-/
import Derived.Test.YtopnkhalmembhaaDoorCrcMath
set_option linter.unusedVariables false
set_option linter.unusedSimpArgs false
namespace Go.Proofs.YtopnkhalmembhaaDoor.CrcMath
/-- The product after j of the 32 steps. -/
def pr (a b : Nat) : Nat → Nat
  | 0 => 0
  | j + 1 => pr a b j ^^^ (if a / 2 ^ (31 - j) % 2 = 1 then Tn j b else 0)
def mul (a b : Nat) : Nat := pr a b 32
theorem T_zero : T 0 = 0 := by decide
theorem pr_T (a b j : Nat) : pr a (T b) j = T (pr a b j) := by
  induction j with
  | zero => rw [pr, pr, T_zero]
  | succ j ih =>
    have e : Tn j (T b) = T (Tn j b) := by rw [← Tn_succ]; rfl
    rw [pr, pr, T_xor, ih]
    by_cases h : a / 2 ^ (31 - j) % 2 = 1
    · rw [if_pos h, if_pos h, e]
    · rw [if_neg h, if_neg h, T_zero]
theorem mul_Tn (a b k : Nat) : mul a (Tn k b) = Tn k (mul a b) := by
  induction k with
  | zero => rfl
  | succ k ih => rw [Tn_succ, Tn_succ]; unfold mul at *; rw [pr_T, ih]
theorem Tn_one (j : Nat) (h : j ≤ 31) : Tn j 2147483648 = 2 ^ (31 - j) := by
  have e : 2147483648 = 2 ^ (31 - j) * 2 ^ j := by rw [← Nat.pow_add, show 31 - j + j = 31 by omega]
  rw [e, Tn_shift]
theorem pr_one (a : Nat) (h : a < 4294967296) : ∀ j, j ≤ 32 → pr a 2147483648 j = a / 2 ^ (32 - j) * 2 ^ (32 - j)
  | 0, _ => by rw [pr, Nat.div_eq_of_lt (by simpa using h)]
  | j + 1, hj => by
    rw [pr, pr_one a h j (by omega)]
    obtain ⟨m, hm⟩ : ∃ m, 31 - j = m := ⟨_, rfl⟩
    have e1 : 32 - j = m + 1 := by omega
    have e2 : 32 - (j + 1) = m := by omega
    rw [Tn_one j (by omega), hm, e1, e2]
    have hb : a / 2 ^ m = 2 * (a / 2 ^ (m + 1)) + a / 2 ^ m % 2 := by rw [Nat.pow_succ, ← Nat.div_div_eq_div_mul]; omega
    have p := Nat.two_pow_pos m
    have hs := split_xor ((a / 2 ^ m % 2) * 2 ^ m) (a / 2 ^ (m + 1)) (m + 1) (by
      rw [Nat.pow_succ]
      have h2 : a / 2 ^ m % 2 < 2 := Nat.mod_lt _ (by omega)
      rcases Nat.mod_two_eq_zero_or_one (a / 2 ^ m) with h3 | h3 <;> rw [h3] <;> omega)
    rw [Nat.xor_comm] at hs
    have e3 : (if a / 2 ^ m % 2 = 1 then 2 ^ m else 0) = a / 2 ^ m % 2 * 2 ^ m := by
      rcases Nat.mod_two_eq_zero_or_one (a / 2 ^ m) with h3 | h3 <;> rw [h3] <;> simp
    rw [e3, ← hs]
    have e4 : a / 2 ^ m * 2 ^ m = (2 * (a / 2 ^ (m + 1)) + a / 2 ^ m % 2) * 2 ^ m := by rw [← hb]
    rw [e4, Nat.add_mul, Nat.pow_succ, Nat.mul_comm 2, Nat.mul_assoc, Nat.mul_comm 2, Nat.add_comm]
theorem mul_one (a : Nat) (h : a < 4294967296) : mul a 2147483648 = a := by
  unfold mul; rw [pr_one a h 32 (Nat.le_refl _)]; simp
/-- Multiplying by x^k. -/
theorem mul_shift (a k : Nat) (h : a < 4294967296) : mul a (Tn k 2147483648) = Tn k a := by rw [mul_Tn, mul_one a h]
theorem pr_lt {a b : Nat} (hb : b < 4294967296) : ∀ j, pr a b j < 4294967296
  | 0 => by rw [pr]; omega
  | j + 1 => by
    unfold pr
    apply xor_lt 32 (pr_lt hb j)
    split
    · exact Tn_lt j hb
    · omega
theorem top_bit (a j : Nat) (h : a < 4294967296) (hj : j ≤ 31) : a * 2 ^ j % 4294967296 / 2147483648 = a / 2 ^ (31 - j) % 2 := by
  have p := Nat.two_pow_pos (31 - j)
  have e1 : (2147483648 : Nat) = 2 ^ j * 2 ^ (31 - j) := by rw [← Nat.pow_add, show j + (31 - j) = 31 by omega]
  have e2 : (4294967296 : Nat) = 2147483648 * 2 := rfl
  rw [e2, Nat.mod_mul_right_div_self]
  congr 1
  rw [e1, Nat.mul_comm a, Nat.mul_div_mul_left _ _ (Nat.two_pow_pos j)]
theorem rest_zero (a j i : Nat) (hj : j ≤ i) (hi : i ≤ 31) (h : a * 2 ^ j % 4294967296 = 0) : a / 2 ^ (31 - i) % 2 = 0 := by
  have e1 : (4294967296 : Nat) = 2 ^ (32 - j) * 2 ^ j := by rw [← Nat.pow_add, show 32 - j + j = 32 by omega]
  rw [e1, Nat.mul_mod_mul_right] at h
  have h2 : a % 2 ^ (32 - j) = 0 := by
    rcases Nat.mul_eq_zero.1 h with h3 | h3
    · exact h3
    · exact absurd h3 (Nat.ne_of_gt (Nat.two_pow_pos j))
  obtain ⟨c, rfl⟩ := Nat.dvd_of_mod_eq_zero h2
  have e2 : 2 ^ (32 - j) * c = 2 ^ (31 - i) * (2 * (2 ^ (i - j) * c)) := by
    rw [← Nat.mul_assoc, ← Nat.mul_assoc, ← Nat.pow_succ, ← Nat.pow_add]; congr 2; omega
  rw [e2, Nat.mul_div_cancel_left _ (Nat.two_pow_pos _)]; omega
theorem pr_rest (a b j : Nat) (hj : j ≤ 32) (h : a * 2 ^ j % 4294967296 = 0) : pr a b j = mul a b := by
  have : ∀ d, j + d ≤ 32 → pr a b (j + d) = pr a b j := by
    intro d
    induction d with
    | zero => intro _; rfl
    | succ d ih =>
      intro hd
      rw [← Nat.add_assoc, pr, if_neg (by rw [rest_zero a j (j + d) (by omega) (by omega) h]; omega), Nat.xor_zero, ih (by omega)]
  unfold mul
  rw [show 32 = j + (32 - j) by omega, this _ (by omega)]
theorem pr_end (a b : Nat) : pr a b 32 = mul a b := rfl
/-! ### checksums joined -/
theorem upd_affine (r s : Nat) (ys : List Int) : upd (r ^^^ s) ys = upd r ys ^^^ Tn (8 * ys.length) s := by
  unfold upd
  induction ys generalizing r s with
  | nil => rfl
  | cons y ys ih =>
    simp only [List.foldl_cons, List.length_cons]
    have e : sb (r ^^^ s) y.toNat = sb r y.toNat ^^^ Tn 8 s := by
      unfold sb
      rw [← Tn_xor]; congr 1
      rw [Nat.xor_assoc, Nat.xor_comm s, ← Nat.xor_assoc]
    rw [e, ih, ← Tn_add, show 8 + 8 * ys.length = 8 * (ys.length + 1) by omega]
theorem not_as_xor (u : Nat) (h : u < 4294967296) : 4294967295 - u = 4294967295 ^^^ u := by
  have := not_xor u h
  have h2 : 4294967295 ^^^ u = (u ^^^ (4294967295 - u)) ^^^ u := by rw [this]
  rw [h2, Nat.xor_comm u, Nat.xor_assoc, Nat.xor_self, Nat.xor_zero]
theorem joins (xs ys : List Int) (hx : ∀ z ∈ xs, 0 ≤ z ∧ z ≤ 255) (hy : ∀ z ∈ ys, 0 ≤ z ∧ z ≤ 255) : crcN 0 (xs ++ ys) = Tn (8 * ys.length) (crcN 0 xs) ^^^ crcN 0 ys := by
  have hu := upd_lt (r := 4294967295) xs (by omega) hx
  have hv := upd_lt (r := 4294967295) ys (by omega) hy
  unfold crcN
  rw [upd_append, Nat.sub_zero]
  have hw := upd_lt (r := upd 4294967295 xs) ys hu hy
  obtain ⟨u, eu⟩ : ∃ u, upd 4294967295 xs = u := ⟨_, rfl⟩
  rw [eu] at hu hw ⊢
  have e : u = 4294967295 ^^^ (4294967295 - u) := by rw [not_as_xor u hu, ← Nat.xor_assoc, Nat.xor_self, Nat.zero_xor]
  have h := upd_affine 4294967295 (4294967295 - u) ys
  rw [← e] at h
  rw [not_as_xor _ hw, h, not_as_xor _ hv, Nat.xor_comm (Tn _ _), Nat.xor_assoc]
/-- The moved register of Combine. -/
def comb (a b n : Nat) : Nat := Tn (8 * n) a ^^^ b
end Go.Proofs.YtopnkhalmembhaaDoor.CrcMath
