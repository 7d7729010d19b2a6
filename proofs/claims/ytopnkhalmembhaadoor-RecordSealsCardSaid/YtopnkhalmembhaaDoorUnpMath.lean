/-
  WORDS BACK TO BYTES. Plain lists of numbers, no program.
-/
import Derived.Test.YtopnkhalmembhaaDoorPackMath
set_option linter.unusedVariables false
set_option linter.unusedSimpArgs false
namespace Go.Proofs.YtopnkhalmembhaaDoor.PackMath
/-- Byte i of the words ws. -/
def byt (ws : List Int) (i : Nat) : Int := ws.getD (i / 8) 0 / 256 ^ (i % 8) % 256
def unp (ws : List Int) (n : Nat) : List Int := (List.range n).map (byt ws)
theorem unp_len (ws : List Int) (n : Nat) : (unp ws n).length = n := by simp [unp]
theorem unp_zero (ws : List Int) : unp ws 0 = [] := rfl
theorem unp_succ (ws : List Int) (k : Nat) : unp ws (k + 1) = unp ws k ++ [byt ws k] := by
  unfold unp; rw [List.range_succ, List.map_append]; rfl
theorem byt_range (ws : List Int) (i : Nat) : 0 ≤ byt ws i ∧ byt ws i ≤ 255 := by unfold byt; omega
theorem unp_range (ws : List Int) (n : Nat) : ∀ z ∈ unp ws n, 0 ≤ z ∧ z ≤ 255 := by
  intro z hz
  obtain ⟨i, _, rfl⟩ := List.mem_map.1 hz
  exact byt_range ws i
/-- p after k stores, k ≤ n. -/
def upto (ws : List Int) (n k : Nat) : List Int := unp ws k ++ List.replicate (n - k) 0
theorem upto_len (ws : List Int) (n k : Nat) (h : k ≤ n) : (upto ws n k).length = n := by unfold upto; rw [List.length_append, unp_len, List.length_replicate]; omega
theorem upto_zero (ws : List Int) (n : Nat) : upto ws n 0 = List.replicate n 0 := by simp [upto, unp_zero]
theorem upto_full (ws : List Int) (n : Nat) : upto ws n n = unp ws n := by simp [upto]
theorem upto_step (ws : List Int) (n k : Nat) (h : k < n) : (upto ws n k).set k (byt ws k) = upto ws n (k + 1) := by
  unfold upto
  obtain ⟨m, rfl⟩ : ∃ m, n = k + m + 1 := ⟨n - k - 1, by omega⟩
  rw [show k + m + 1 - k = m + 1 by omega, show k + m + 1 - (k + 1) = m by omega, List.replicate_succ, unp_succ, List.set_append_right _ _ (by rw [unp_len]; omega), unp_len, Nat.sub_self, List.set_cons_zero, List.append_assoc]
  rfl
/-- ws are the words of n bytes. -/
def unpOk (ws : List Int) (n : Nat) : Prop := ws.length = (n + 7) / 8 ∧ (n % 8 ≠ 0 → ws.getD (ws.length - 1) 0 / 256 ^ (n % 8) = 0)
theorem pow_pos' (n : Nat) : (0 : Int) < 256 ^ n := Int.pow_pos (by omega)
theorem div_pow (x : Int) (r j : Nat) : x / 256 ^ (r + j) = x / 256 ^ r / 256 ^ j := by
  rw [Int.pow_add, Int.ediv_ediv_of_nonneg (by have := pow_pos' r; omega)]
/-- A byte behind byte n is set: not the words of n bytes. -/
theorem unp_bad (ws : List Int) (n i : Nat) (hl : ws.length = (n + 7) / 8) (h1 : n ≤ i) (h2 : i < 8 * ws.length) (h : byt ws i ≠ 0) : ¬ unpOk ws n := by
  intro ho
  have hn : n % 8 ≠ 0 := by omega
  have h3 := ho.2 hn
  have e1 : i / 8 = ws.length - 1 := by omega
  have e2 : i % 8 = n % 8 + (i % 8 - n % 8) := by omega
  apply h
  unfold byt
  rw [e1, e2, div_pow, h3]; simp
/-- No byte behind byte n is set: they are. -/
theorem unp_good (ws : List Int) (n : Nat) (hl : ws.length = (n + 7) / 8) (hw : ∀ z ∈ ws, 0 ≤ z ∧ z ≤ 18446744073709551615) (h : ∀ i, n ≤ i → i < 8 * ws.length → byt ws i = 0) : unpOk ws n := by
  refine ⟨hl, fun hn => ?_⟩
  have hlt : ws.length - 1 < ws.length := by omega
  have hx : 0 ≤ ws.getD (ws.length - 1) 0 ∧ ws.getD (ws.length - 1) 0 ≤ 18446744073709551615 := by
    have e : ws.getD (ws.length - 1) 0 = ws[ws.length - 1] := by simp [List.getD, hlt]
    rw [e]; exact hw _ (List.getElem_mem hlt)
  have key : ∀ m, m ≤ 8 - n % 8 → ws.getD (ws.length - 1) 0 / 256 ^ (8 - m) = 0 := by
    intro m
    induction m with
    | zero =>
      intro _
      rw [show ((256 : Int) ^ (8 - 0)) = 18446744073709551616 from rfl]; omega
    | succ m ih =>
      intro hm
      have h1 := ih (by omega)
      have h2 := h (8 * (ws.length - 1) + (8 - (m + 1))) (by omega) (by omega)
      unfold byt at h2
      rw [show (8 * (ws.length - 1) + (8 - (m + 1))) / 8 = ws.length - 1 by omega, show (8 * (ws.length - 1) + (8 - (m + 1))) % 8 = 8 - (m + 1) by omega] at h2
      rw [show 8 - m = (8 - (m + 1)) + 1 by omega, div_pow] at h1
      omega
  have := key (8 - n % 8) (Nat.le_refl _)
  rwa [show 8 - (8 - n % 8) = n % 8 by omega] at this
theorem le_digit (bs : List Int) (h : ∀ b ∈ bs, 0 ≤ b ∧ b ≤ 255) : ∀ j, le bs / 256 ^ j % 256 = bs.getD j 0 := by
  induction bs with
  | nil => intro j; simp [le]
  | cons x bs ih =>
    have hx := h x (by simp)
    intro j
    cases j with
    | zero => simp [le]; omega
    | succ j =>
      rw [show j + 1 = 1 + j by omega, div_pow, le]
      have e : (x + 256 * le bs) / 256 ^ 1 = le bs := by omega
      rw [e, ih (fun b hb => h b (by simp [hb])), show 1 + j = j + 1 by omega]
      simp
theorem byt_pks (zs : List Int) (i : Nat) (hz : ∀ b ∈ zs, 0 ≤ b ∧ b ≤ 255) (h : i < zs.length) : byt (pks zs ((zs.length + 7) / 8)) i = zs.getD i 0 := by
  unfold byt
  rw [pks_at _ _ _ (by omega)]
  unfold pkw
  rw [le_digit _ (fun b hb => hz b (mem_sub hb))]
  simp only [List.getD, List.getElem?_take, List.getElem?_drop]
  rw [if_pos (by omega), show 8 * (i / 8) + i % 8 = i by omega]
theorem unp_pks (zs : List Int) (hz : ∀ b ∈ zs, 0 ≤ b ∧ b ≤ 255) : unp (pks zs ((zs.length + 7) / 8)) zs.length = zs := by
  apply List.ext_getElem
  · rw [unp_len]
  · intro i h1 h2
    simp only [unp, List.getElem_map, List.getElem_range]
    rw [byt_pks zs i hz h2]; simp [List.getD, h2]
theorem pks_ok (zs : List Int) (hz : ∀ b ∈ zs, 0 ≤ b ∧ b ≤ 255) : unpOk (pks zs ((zs.length + 7) / 8)) zs.length := by
  refine ⟨pks_len _ _, fun hn => ?_⟩
  rw [pks_len, pks_at _ _ _ (by omega)]
  unfold pkw
  have h1 := le_range ((zs.drop (8 * ((zs.length + 7) / 8 - 1))).take 8) (fun b hb => hz b (mem_sub hb))
  rw [List.length_take, List.length_drop, show min 8 (zs.length - 8 * ((zs.length + 7) / 8 - 1)) = zs.length % 8 by omega] at h1
  exact Int.ediv_eq_zero_of_lt h1.1 h1.2
theorem pks_wf (zs : List Int) (n : Nat) (hz : ∀ b ∈ zs, 0 ≤ b ∧ b ≤ 255) : ∀ z ∈ pks zs n, 0 ≤ z ∧ z ≤ 18446744073709551615 := by
  intro z h
  obtain ⟨j, _, rfl⟩ := List.mem_map.1 h
  exact pkw_range zs j hz
theorem eq_of_getD {xs ys : List Int} {n : Nat} (h1 : xs.length = n) (h2 : ys.length = n) (h : ∀ j, j < n → xs.getD j 0 = ys.getD j 0) : xs = ys := by
  apply List.ext_getElem
  · omega
  · intro i a b
    have := h i (by omega)
    simpa [List.getD, a, b] using this
end Go.Proofs.YtopnkhalmembhaaDoor.PackMath
