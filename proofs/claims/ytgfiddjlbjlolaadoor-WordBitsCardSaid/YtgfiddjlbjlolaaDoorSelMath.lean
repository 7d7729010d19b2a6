/-
  THE LOWEST SET BIT, THE WORD WITHOUT IT, AND THE k-th SET BIT. Plain numbers, no program.
  Words below 2^64.
-/
import Derived.Test.YtgfiddjlbjlolaaDoorOnesMath
namespace Go.Proofs.YtgfiddjlbjlolaaDoor.SelMath
open Go.Proofs.YtgfiddjlbjlolaaDoor.OnesMath
theorem low_form (X : Nat) (h : X ≠ 0) : ∃ t q, X = 2 ^ t * (2 * q + 1) := by
  induction X using Nat.strongRecOn with
  | ind X ih =>
    rcases Nat.mod_two_eq_zero_or_one X with h2 | h2
    · obtain ⟨t, q, e⟩ := ih (X / 2) (by omega) (by omega)
      exact ⟨t + 1, q, by rw [Nat.pow_succ, Nat.mul_assoc, Nat.mul_comm 2, ← Nat.mul_assoc, ← e]; omega⟩
    · exact ⟨0, X / 2, by simp; omega⟩
theorem low_lt {t q : Nat} (h : 2 ^ t * (2 * q + 1) < 18446744073709551616) : t < 64 ∧ q < 2 ^ (63 - t) := by
  have h1 : 2 ^ t ≤ 2 ^ t * (2 * q + 1) := Nat.le_mul_of_pos_right _ (by omega)
  have ht : t < 64 := by
    rcases Nat.lt_or_ge t 64 with h2 | h2
    · exact h2
    · have : 2 ^ 64 ≤ 2 ^ t := Nat.pow_le_pow_right (by omega) h2
      omega
  refine ⟨ht, ?_⟩
  rcases Nat.lt_or_ge q (2 ^ (63 - t)) with h2 | h2
  · exact h2
  · have e : 2 ^ 64 = 2 ^ t * (2 * 2 ^ (63 - t)) := by rw [← Nat.pow_succ', ← Nat.pow_add]; congr 1; omega
    have := Nat.mul_le_mul_left (2 ^ t) (show 2 * 2 ^ (63 - t) ≤ 2 * q + 1 by omega)
    omega
theorem and_parts (n x y : Nat) : x &&& y = 2 ^ n * ((x / 2 ^ n) &&& (y / 2 ^ n)) + ((x % 2 ^ n) &&& (y % 2 ^ n)) := by
  have h1 : (x &&& y) % 2 ^ n = x % 2 ^ n &&& y % 2 ^ n := Nat.and_mod_two_pow
  have h2 : (x &&& y) / 2 ^ n = x / 2 ^ n &&& y / 2 ^ n := Nat.and_div_two_pow
  rw [← h1, ← h2, Nat.div_add_mod]
theorem clr_eq (t q : Nat) : (2 ^ t * (2 * q + 1)) &&& (2 ^ t * (2 * q + 1) - 1) = 2 ^ (t + 1) * q := by
  have p := Nat.two_pow_pos t
  have e1 : 2 ^ t * (2 * q + 1) = 2 ^ (t + 1) * q + 2 ^ t := by rw [Nat.mul_add, Nat.pow_succ, Nat.mul_one, Nat.mul_assoc]
  have e0 : 2 ^ (t + 1) = 2 * 2 ^ t := by rw [Nat.pow_succ, Nat.mul_comm]
  rw [e1, and_parts (t + 1)]
  have a1 : (2 ^ (t + 1) * q + 2 ^ t) / 2 ^ (t + 1) = q := by rw [Nat.mul_add_div (by omega), Nat.div_eq_of_lt (by omega)]; rfl
  have a2 : (2 ^ (t + 1) * q + 2 ^ t) % 2 ^ (t + 1) = 2 ^ t := by rw [Nat.mul_add_mod, Nat.mod_eq_of_lt (by omega)]
  have e3 : 2 ^ (t + 1) * q + 2 ^ t - 1 = 2 ^ (t + 1) * q + (2 ^ t - 1) := by omega
  have a3 : (2 ^ (t + 1) * q + (2 ^ t - 1)) / 2 ^ (t + 1) = q := by rw [Nat.mul_add_div (by omega), Nat.div_eq_of_lt (by omega)]; rfl
  have a4 : (2 ^ (t + 1) * q + (2 ^ t - 1)) % 2 ^ (t + 1) = 2 ^ t - 1 := by rw [Nat.mul_add_mod, Nat.mod_eq_of_lt (by omega)]
  rw [e3, a1, a2, a3, a4, Nat.and_two_pow_sub_one_eq_mod, Nat.mod_self, Nat.and_self]; rfl
theorem and_compl (n q : Nat) (h : q < 2 ^ n) : q &&& (2 ^ n - 1 - q) = 0 := by
  apply Nat.eq_of_testBit_eq
  intro i
  rw [Nat.testBit_and, show 2 ^ n - 1 - q = 2 ^ n - (q + 1) by omega, Nat.testBit_two_pow_sub_succ h, Nat.zero_testBit]
  cases q.testBit i <;> simp
theorem iso_eq (t q : Nat) (h : 2 ^ t * (2 * q + 1) < 18446744073709551616) : (2 ^ t * (2 * q + 1)) &&& (18446744073709551616 - 2 ^ t * (2 * q + 1)) = 2 ^ t := by
  have p := Nat.two_pow_pos t
  obtain ⟨ht, hq⟩ := low_lt h
  have e1 : 2 ^ t * (2 * q + 1) = 2 ^ (t + 1) * q + 2 ^ t := by rw [Nat.mul_add, Nat.pow_succ, Nat.mul_one, Nat.mul_assoc]
  have e0 : 2 ^ (t + 1) = 2 * 2 ^ t := by rw [Nat.pow_succ, Nat.mul_comm]
  have e64 : 18446744073709551616 = 2 ^ (t + 1) * 2 ^ (63 - t) := by rw [← Nat.pow_add, show t + 1 + (63 - t) = 64 by omega]
  have e2 : 18446744073709551616 - (2 ^ (t + 1) * q + 2 ^ t) = 2 ^ (t + 1) * (2 ^ (63 - t) - 1 - q) + 2 ^ t := by
    have h1 : 2 ^ (t + 1) * (2 ^ (63 - t) - 1 - q) + 2 ^ (t + 1) * q + 2 ^ (t + 1) = 2 ^ (t + 1) * 2 ^ (63 - t) := by
      rw [← Nat.mul_add, ← Nat.mul_succ]; congr 1; omega
    omega
  rw [e1, e2, and_parts (t + 1)]
  have a1 : ∀ z, (2 ^ (t + 1) * z + 2 ^ t) / 2 ^ (t + 1) = z := fun z => by rw [Nat.mul_add_div (by omega), Nat.div_eq_of_lt (by omega)]; rfl
  have a2 : ∀ z, (2 ^ (t + 1) * z + 2 ^ t) % 2 ^ (t + 1) = 2 ^ t := fun z => by rw [Nat.mul_add_mod, Nat.mod_eq_of_lt (by omega)]
  rw [a1, a1, a2, a2, and_compl _ _ hq, Nat.and_self, Nat.mul_zero, Nat.zero_add]
/-! ### bits -/
theorem bit_lo (t q i : Nat) (h : i < t) : 2 ^ t * (2 * q + 1) / 2 ^ i % 2 = 0 ∧ 2 ^ (t + 1) * q / 2 ^ i % 2 = 0 := by
  obtain ⟨d, rfl⟩ : ∃ d, t = i + (d + 1) := ⟨t - i - 1, by omega⟩
  have p := Nat.two_pow_pos i
  have e1 : 2 ^ (i + (d + 1)) * (2 * q + 1) = 2 ^ i * (2 * (2 ^ d * (2 * q + 1))) := by rw [Nat.pow_add, Nat.pow_succ, Nat.mul_assoc, Nat.mul_comm (2 ^ d) 2, Nat.mul_assoc]
  have e2 : 2 ^ (i + (d + 1) + 1) * q = 2 ^ i * (2 * (2 ^ (d + 1) * q)) := by rw [show i + (d + 1) + 1 = i + (1 + (d + 1)) by omega, Nat.pow_add, Nat.pow_add 2 1, Nat.pow_one, Nat.mul_assoc, Nat.mul_assoc]
  rw [e1, e2, Nat.mul_div_cancel_left _ p, Nat.mul_div_cancel_left _ p]; omega
theorem bit_at (t q : Nat) : 2 ^ t * (2 * q + 1) / 2 ^ t % 2 = 1 ∧ 2 ^ (t + 1) * q / 2 ^ t % 2 = 0 := by
  have p := Nat.two_pow_pos t
  have e2 : 2 ^ (t + 1) * q = 2 ^ t * (2 * q) := by rw [Nat.pow_succ, Nat.mul_assoc]
  rw [e2, Nat.mul_div_cancel_left _ p, Nat.mul_div_cancel_left _ p]; omega
theorem bit_hi (t q i : Nat) (h : t < i) : 2 ^ t * (2 * q + 1) / 2 ^ i % 2 = 2 ^ (t + 1) * q / 2 ^ i % 2 := by
  obtain ⟨d, rfl⟩ : ∃ d, i = t + (1 + d) := ⟨i - t - 1, by omega⟩
  have p := Nat.two_pow_pos t
  have e2 : 2 ^ (t + 1) * q = 2 ^ t * (2 * q) := by rw [Nat.pow_succ, Nat.mul_assoc]
  rw [e2, Nat.pow_add 2 t, ← Nat.div_div_eq_div_mul, ← Nat.div_div_eq_div_mul, Nat.mul_div_cancel_left _ p, Nat.mul_div_cancel_left _ p, Nat.pow_add, Nat.pow_one, ← Nat.div_div_eq_div_mul, ← Nat.div_div_eq_div_mul]
  rw [show (2 * q + 1) / 2 = q by omega, show 2 * q / 2 = q by omega]
theorem pcl_clr (t q i : Nat) : pcl (2 ^ t * (2 * q + 1)) i = pcl (2 ^ (t + 1) * q) i + (if t < i then 1 else 0) := by
  induction i with
  | zero => simp [pcl]
  | succ i ih =>
    rw [pcl_snoc, pcl_snoc, ih]
    rcases Nat.lt_trichotomy i t with h | h | h
    · have := bit_lo t q i h
      rw [if_neg (by omega), if_neg (by omega)]; omega
    · subst h
      have := bit_at i q
      rw [if_neg (by omega), if_pos (by omega)]; omega
    · have := bit_hi t q i h
      rw [if_pos (by omega), if_pos (by omega)]; omega
theorem pcl_below (t q : Nat) : ∀ i, i ≤ t → pcl (2 ^ t * (2 * q + 1)) i = 0
  | 0, _ => rfl
  | i + 1, h => by rw [pcl_snoc, pcl_below t q i (by omega), (bit_lo t q i (by omega)).1]
/-! ### the k-th set bit -/
def scan (X : Nat) (k : Int) : Nat → Nat → Int
  | 0, _ => -1
  | f + 1, i => if X / 2 ^ i % 2 = 1 ∧ ((pcl X i : Nat) : Int) = k then i else scan X k f (i + 1)
/-- The number of the set bit below which k bits are set; -1 if there is none. -/
def selZ (X : Nat) (k : Int) : Int := scan X k 64 0
theorem scan_congr {X Y : Nat} {k l : Int} (h : ∀ i, (X / 2 ^ i % 2 = 1 ∧ ((pcl X i : Nat) : Int) = k) ↔ (Y / 2 ^ i % 2 = 1 ∧ ((pcl Y i : Nat) : Int) = l)) : ∀ f i, scan X k f i = scan Y l f i
  | 0, _ => rfl
  | f + 1, i => by
    simp only [scan]
    rw [scan_congr h f (i + 1)]
    by_cases hc : X / 2 ^ i % 2 = 1 ∧ ((pcl X i : Nat) : Int) = k
    · rw [if_pos hc, if_pos ((h i).1 hc)]
    · rw [if_neg hc, if_neg (fun h2 => hc ((h i).2 h2))]
theorem scan_none {X : Nat} {k : Int} : ∀ f i, (∀ j, i ≤ j → j < i + f → ¬ (X / 2 ^ j % 2 = 1 ∧ ((pcl X j : Nat) : Int) = k)) → scan X k f i = -1
  | 0, _, _ => rfl
  | f + 1, i, h => by
    simp only [scan]
    rw [if_neg (h i (Nat.le_refl _) (by omega)), scan_none f (i + 1) (fun j h1 h2 => h j (by omega) (by omega))]
theorem pcl_mono {X i j : Nat} (h : i ≤ j) : pcl X i ≤ pcl X j := by
  induction j with
  | zero => have : i = 0 := by omega
            subst this; exact Nat.le_refl _
  | succ j ih =>
    rw [pcl_snoc]
    rcases Nat.lt_or_ge i (j + 1) with h2 | h2
    · have := ih (by omega); omega
    · have : i = j + 1 := by omega
      subst this; rw [pcl_snoc]; omega
theorem sel_out (X : Nat) (k : Int) (h : k < 0 ∨ ((pcl X 64 : Nat) : Int) ≤ k) : selZ X k = -1 := by
  apply scan_none
  intro j _ hj hc
  have h1 := pcl_snoc X j
  have h2 := pcl_mono (X := X) (show j + 1 ≤ 64 by omega)
  omega
theorem sel_zero (t q : Nat) (ht : t < 64) : selZ (2 ^ t * (2 * q + 1)) 0 = t := by
  have : ∀ f i, i ≤ t → t < i + f → scan (2 ^ t * (2 * q + 1)) 0 f i = t := by
    intro f
    induction f with
    | zero => intro i h1 h2; omega
    | succ f ih =>
      intro i h1 h2
      simp only [scan]
      rcases Nat.lt_or_ge i t with h | h
      · rw [if_neg (fun hc => by have := (bit_lo t q i h).1; omega), ih (i + 1) (by omega) (by omega)]
      · have : i = t := by omega
        subst this
        rw [if_pos ⟨(bit_at i q).1, by rw [pcl_below i q i (Nat.le_refl _)]; rfl⟩]
  exact this 64 0 (by omega) (by omega)
theorem sel_clr (t q : Nat) (k : Int) (hk : 0 ≤ k) : selZ (2 ^ (t + 1) * q) k = selZ (2 ^ t * (2 * q + 1)) (k + 1) := by
  apply scan_congr
  intro i
  have h := pcl_clr t q i
  rcases Nat.lt_trichotomy i t with h2 | h2 | h2
  · have := bit_lo t q i h2
    constructor <;> intro hc <;> omega
  · subst h2
    have := bit_at i q
    rw [if_neg (by omega)] at h
    have h3 := pcl_below i q i (Nat.le_refl _)
    constructor <;> intro hc <;> omega
  · have := bit_hi t q i h2
    rw [if_pos h2] at h
    constructor <;> intro hc <;> omega
theorem sel_none0 (k : Int) : selZ 0 k = -1 := scan_none _ _ (fun j _ _ hc => by simp at hc)
theorem scan_step (X : Nat) (k : Int) (f i : Nat) (h : X / 2 ^ i % 2 ≠ 1) : scan X k (f + 1) i = scan X k f (i + 1) := by
  simp only [scan]; rw [if_neg (fun hc => h hc.1)]
theorem scan_step2 (X : Nat) (k : Int) (f i : Nat) (h : ((pcl X i : Nat) : Int) ≠ k) : scan X k (f + 1) i = scan X k f (i + 1) := by
  simp only [scan]; rw [if_neg (fun hc => h hc.2)]
theorem scan_hit (X : Nat) (k : Int) (f i : Nat) (h : X / 2 ^ i % 2 = 1) (h2 : ((pcl X i : Nat) : Int) = k) : scan X k (f + 1) i = i := by
  simp only [scan]; rw [if_pos ⟨h, h2⟩]
/-! ### de Bruijn's table -/
def dbTab : List Int := [0, 1, 56, 2, 57, 49, 28, 3, 61, 58, 42, 50, 38, 29, 17, 4, 62, 47, 59, 36, 45, 43, 51, 22, 53, 39, 33, 30, 24, 18, 12, 5, 63, 55, 48, 27, 60, 41, 37, 16, 46, 35, 44, 21, 52, 32, 23, 11, 54, 26, 40, 15, 34, 20, 31, 10, 25, 14, 19, 9, 13, 8, 7, 6]
theorem db : ∀ t : Nat, t < 64 → (2 ^ t * 285870213051353865 % 18446744073709551616 / 288230376151711744) < 64 ∧ dbTab.getD (2 ^ t * 285870213051353865 % 18446744073709551616 / 288230376151711744) 0 = (t : Int) := by decide +kernel
end Go.Proofs.YtgfiddjlbjlolaaDoor.SelMath
