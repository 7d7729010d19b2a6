/-
  ARITHMETIC: numbers of choices. No model's run in this text.
-/
import Derived.Lib.Hide
set_option linter.unusedVariables false
set_option linter.unusedSimpArgs false
namespace Go.Proofs.Ythnaogfcffmphaa.Sched
open Go Go.Proofs
def bin : Nat → Nat → Nat
  | _, 0 => 1
  | 0, _ + 1 => 0
  | n + 1, k + 1 => bin n k + bin n (k + 1)
theorem bin_zero (n : Nat) : bin n 0 = 1 := by cases n <;> rfl
theorem bin_succ (n k : Nat) : bin (n + 1) (k + 1) = bin n k + bin n (k + 1) := rfl
theorem bin_above : ∀ (n k : Nat), n < k → bin n k = 0
  | 0, k + 1, _ => rfl
  | n + 1, k + 1, h => by rw [bin_succ, bin_above n k (by omega), bin_above n (k + 1) (by omega)]
theorem bin_self : ∀ n, bin n n = 1
  | 0 => rfl
  | n + 1 => by rw [bin_succ, bin_self n, bin_above n (n + 1) (by omega)]
theorem bin_mul : ∀ (n k : Nat), (k + 1) * bin (n + 1) (k + 1) = (n + 1) * bin n k
  | 0, 0 => rfl
  | 0, k + 1 => by rw [bin_succ, bin_above 0 (k + 1) (by omega), bin_above 0 (k + 1 + 1) (by omega)]; rfl
  | n + 1, 0 => by
    have h := bin_mul n 0
    rw [bin_succ, bin_zero]
    rw [bin_zero] at h
    have h2 : bin (n + 1) (0 + 1) = n + 1 := by omega
    rw [h2]; omega
  | n + 1, k + 1 => by
    have h1 := bin_mul n k
    have h2 := bin_mul n (k + 1)
    rw [bin_succ (n + 1) (k + 1), Nat.mul_add, h2, Nat.add_mul, h1, bin_succ n k]
    rw [Nat.one_mul, Nat.add_mul (n + 1) 1, Nat.one_mul, Nat.mul_add (n + 1)]
    omega
theorem bin_symm : ∀ (n k : Nat), k ≤ n → bin n k = bin n (n - k)
  | 0, 0, _ => rfl
  | n + 1, 0, _ => by rw [bin_zero, Nat.sub_zero, bin_self]
  | n + 1, k + 1, h => by
    by_cases e : k = n
    · subst e; rw [bin_self, Nat.sub_self, bin_zero]
    · rw [bin_succ, bin_symm n k (by omega), bin_symm n (k + 1) (by omega)]
      have e1 : n + 1 - (k + 1) = (n - (k + 1)) + 1 := by omega
      rw [e1, bin_succ, show n - (k + 1) + 1 = n - k by omega]
      omega
/-- The number of ways to lay i among m. -/
def ch (m i : Nat) : Nat := bin (m + i) i
theorem ch_zero (m : Nat) : ch m 0 = 1 := bin_zero _
theorem ch_mul (m i : Nat) : ch m (i + 1) * (i + 1) = ch m i * (m + (i + 1)) := by
  unfold ch
  have := bin_mul (m + i) i
  rw [Nat.mul_comm, show m + (i + 1) = m + i + 1 by omega, this, Nat.mul_comm]
theorem ch_pos (m i : Nat) : 0 < ch m i := by
  induction i with
  | zero => rw [ch_zero]; omega
  | succ i ih =>
    have := ch_mul m i
    have h2 : 0 < ch m i * (m + (i + 1)) := Nat.mul_pos ih (by omega)
    rw [← this] at h2
    exact Nat.pos_of_mul_pos_right h2
theorem ch_le (m i : Nat) : ch m i ≤ ch m (i + 1) := by
  have h := ch_mul m i
  have h2 : ch m i * (i + 1) ≤ ch m i * (m + (i + 1)) := Nat.mul_le_mul_left _ (by omega)
  rw [← h] at h2
  exact Nat.le_of_mul_le_mul_right h2 (by omega)
theorem ch_mono (m : Nat) {i j : Nat} (h : i ≤ j) : ch m i ≤ ch m j := by
  induction j with
  | zero => have : i = 0 := by omega
            subst this; exact Nat.le_refl _
  | succ j ih =>
    by_cases e : i = j + 1
    · subst e; exact Nat.le_refl _
    · exact Nat.le_trans (ih (by omega)) (ch_le m j)
theorem ch_pow (m : Nat) : ∀ i, i ≤ m → 2 ^ i ≤ ch m i
  | 0, _ => by rw [ch_zero]; exact Nat.le_refl _
  | i + 1, h => by
    have ih := ch_pow m i (by omega)
    have h1 := ch_mul m i
    have h2 : ch m i * (2 * (i + 1)) ≤ ch m i * (m + (i + 1)) := Nat.mul_le_mul_left _ (by omega)
    rw [← h1, ← Nat.mul_assoc] at h2
    have h3 := Nat.le_of_mul_le_mul_right h2 (by omega)
    rw [Nat.pow_succ]; omega
/-- n times the ways to lay b among a (or a among b). -/
def tim (n a b : Nat) : Nat := n * ch (max a b) (min a b)
theorem ch_symm (a b : Nat) : ch a b = ch b a := by
  unfold ch
  rw [bin_symm (a + b) b (by omega), show a + b - b = a by omega, Nat.add_comm]
theorem ch_maxmin (a b : Nat) : ch (max a b) (min a b) = bin (a + b) b := by
  rcases Nat.le_total a b with h | h
  · rw [Nat.max_eq_right h, Nat.min_eq_left h, ch_symm]; rfl
  · rw [Nat.max_eq_left h, Nat.min_eq_right h]; rfl
/-- Count as plain data: the number and the total so far; none: too many. -/
def most : Nat := 4611686018427387904
def cntStep (s : Nat × Nat) (z : Int) : Nat × Nat := (tim s.1 s.2 z.toNat, s.2 + z.toNat)
def cntFold (zs : List Int) : Nat × Nat := zs.foldl cntStep (1, 0)
theorem tim_ge {n : Nat} (a b : Nat) : n ≤ tim n a b := by
  unfold tim
  have := Nat.mul_le_mul_left n (ch_pos (max a b) (min a b))
  omega
theorem fold_ge (zs : List Int) (s : Nat × Nat) : s.1 ≤ (zs.foldl cntStep s).1 := by
  induction zs generalizing s with
  | nil => exact Nat.le_refl _
  | cons z zs ih => rw [List.foldl_cons]; exact Nat.le_trans (show s.1 ≤ (cntStep s z).1 from tim_ge _ _) (ih _)
theorem fold_take {zs : List Int} {k : Nat} (h : k < zs.length) : cntFold (zs.take (k + 1)) = cntStep (cntFold (zs.take k)) (zs.getD k 0) := by
  unfold cntFold
  rw [List.take_succ_eq_append_getElem h, List.foldl_append]
  simp [List.getD, h]
theorem fold_mono (zs : List Int) (k : Nat) : (cntFold (zs.take k)).1 ≤ (cntFold zs).1 := by
  have e : cntFold zs = (zs.drop k).foldl cntStep (cntFold (zs.take k)) := by
    unfold cntFold
    rw [← List.foldl_append, List.take_append_drop]
  rw [e]; exact fold_ge _ _
theorem fold_total (zs : List Int) (M : Nat) (h : ∀ z ∈ zs, z.toNat ≤ M) (k : Nat) : (cntFold (zs.take k)).2 ≤ k * M := by
  have key : ∀ (l : List Int) (s : Nat × Nat), (∀ z ∈ l, z.toNat ≤ M) → (l.foldl cntStep s).2 ≤ s.2 + l.length * M := by
    intro l
    induction l with
    | nil => intro s _; simp
    | cons z l ih =>
      intro s hl
      rw [List.foldl_cons]
      have h1 := ih (cntStep s z) (fun y hy => hl y (List.mem_cons_of_mem _ hy))
      have h2 := hl z (List.mem_cons_self ..)
      rw [List.length_cons, Nat.add_mul, Nat.one_mul]
      unfold cntStep at h1
      simp only at h1
      unfold cntStep
      omega
  have h1 := key (zs.take k) (1, 0) (fun z hz => h z (List.mem_of_mem_take hz))
  have h2 : (zs.take k).length * M ≤ k * M := Nat.mul_le_mul_right _ (List.length_take_le _ _)
  unfold cntFold
  simp only at h1
  omega
end Go.Proofs.Ythnaogfcffmphaa.Sched
