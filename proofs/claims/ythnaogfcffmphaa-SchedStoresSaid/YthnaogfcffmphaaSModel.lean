/-
  SCHED: the machines' run as plain data: ONE model for the program and for the reference. No condition but those written.
-/
import Derived.Lib.Hide
set_option linter.unusedVariables false
set_option linter.unusedSimpArgs false
namespace Go.Proofs.Ythnaogfcffmphaa.Sched
open Go Go.Proofs
structure X where
  n : Nat
  left : Nat → Option Nat
  steps : List Int
  ended : List Int
namespace X
def live (s : X) (i : Nat) : Bool := (s.left i).isSome && decide (s.ended.getD i 0 < 0)
def running (s : X) : Nat := (List.range s.n).countP s.live
def go (s : X) (i m : Nat) : X :=
  { s with left := fun j => if j = i then some (m - 1) else s.left j, steps := s.steps ++ [(i : Int)], ended := if m ≤ 1 then s.ended.set i s.steps.length else s.ended }
def step (s : X) (i : Nat) : X :=
  match s.left i with
  | none => s
  | some m => if 0 ≤ s.ended.getD i 0 then s else s.go i m
def pick (s : X) (p : Int) : X := if 0 ≤ p ∧ 0 < s.n then s.step (p.toNat % s.n) else s
def run (s : X) (ps : List Int) : X := ps.foldl pick s
structure Ok (s : X) (M : Nat) : Prop where
  len : s.ended.length = s.n
  small : ∀ i m, s.left i = some m → m ≤ 9223372036854775807
  steps : s.steps.length ≤ M
theorem step_none {s : X} {i : Nat} (h : s.left i = none) : s.step i = s := by unfold step; rw [h]
theorem step_over {s : X} {i m : Nat} (h : s.left i = some m) (h2 : 0 ≤ s.ended.getD i 0) : s.step i = s := by unfold step; rw [h]; simp only; rw [if_pos h2]
theorem step_go {s : X} {i m : Nat} (h : s.left i = some m) (h2 : s.ended.getD i 0 < 0) : s.step i = s.go i m := by unfold step; rw [h]; simp only; rw [if_neg (by omega)]
theorem step_n (s : X) (i : Nat) : (s.step i).n = s.n := by
  unfold step; split
  · rfl
  · split <;> rfl
theorem pick_n (s : X) (p : Int) : (s.pick p).n = s.n := by
  unfold pick; split
  · exact step_n _ _
  · rfl
theorem run_n (s : X) (ps : List Int) : (s.run ps).n = s.n := by
  unfold run
  induction ps generalizing s with
  | nil => rfl
  | cons p ps ih => rw [List.foldl_cons, ih, pick_n]
theorem isSome_step (s : X) (i j : Nat) : ((s.step i).left j).isSome = (s.left j).isSome := by
  unfold step
  split
  · rfl
  · rename_i m hm
    split
    · rfl
    · unfold go; simp only
      split
      · rename_i e; subst e; rw [hm]; rfl
      · rfl
theorem left_same (s : X) (i m : Nat) : (s.go i m).left i = some (m - 1) := if_pos rfl
theorem left_other (s : X) (i m : Nat) {j : Nat} (h : j ≠ i) : (s.go i m).left j = s.left j := if_neg h
theorem isSome_go {s : X} {i m : Nat} (hm : s.left i = some m) (j : Nat) : ((s.go i m).left j).isSome = (s.left j).isSome := by
  by_cases e : j = i
  · subst e; rw [left_same, hm]; rfl
  · rw [left_other _ _ _ e]
theorem Ok.go {s : X} {M i m : Nat} (h : s.Ok M) (hm : s.left i = some m) : (s.go i m).Ok (M + 1) := by
  refine ⟨?_, fun j k hj => ?_, ?_⟩
  · unfold X.go; simp only; split <;> simp [h.len]
  · unfold X.go at hj; simp only at hj
    by_cases e : j = i
    · rw [if_pos e] at hj; have := h.small i m hm; injection hj with hj; omega
    · rw [if_neg e] at hj; exact h.small j k hj
  · unfold X.go; simp only [List.length_append, List.length_singleton]; have := h.steps; omega
theorem Ok.more {s : X} {M N : Nat} (h : s.Ok M) (hN : M ≤ N) : s.Ok N := ⟨h.len, h.small, Nat.le_trans h.steps hN⟩
theorem Ok.step {s : X} {M : Nat} (h : s.Ok M) (i : Nat) : (s.step i).Ok (M + 1) := by
  unfold X.step
  split
  · exact h.more (by omega)
  · split
    · exact h.more (by omega)
    · exact h.go (by assumption)
theorem Ok.pick {s : X} {M : Nat} (h : s.Ok M) (p : Int) : (s.pick p).Ok (M + 1) := by
  unfold X.pick
  split
  · exact h.step _
  · exact h.more (by omega)
theorem run_take {s : X} {ps : List Int} {k : Nat} (h : k < ps.length) : s.run (ps.take (k + 1)) = (s.run (ps.take k)).pick (ps.getD k 0) := by
  unfold run
  rw [List.take_succ_eq_append_getElem h, List.foldl_append]
  simp [List.getD, h]
theorem Ok.run {s : X} {M : Nat} (h : s.Ok M) (ps : List Int) : (s.run ps).Ok (M + ps.length) := by
  unfold X.run
  induction ps generalizing s M with
  | nil => exact h
  | cons p ps ih => rw [List.foldl_cons, List.length_cons]; exact (ih (h.pick p)).more (by omega)
/-! ### how many run -/
theorem getD_set (l : List Int) (i j : Nat) (v : Int) (hi : i < l.length) : (l.set i v).getD j 0 = if j = i then v else l.getD j 0 := by
  simp only [List.getD, List.getElem?_set]
  by_cases e : i = j
  · subst e; simp [hi]
  · rw [if_neg e, if_neg (fun h => e h.symm)]
theorem countP_one {p q : Nat → Bool} : ∀ {n i : Nat}, i < n → p i = true → q i = false → (∀ j, j ≠ i → q j = p j) → (List.range n).countP p = (List.range n).countP q + 1
  | 0, i, h, _, _, _ => absurd h (by omega)
  | n + 1, i, h, hp, hq, hj => by
    rw [List.range_succ, List.countP_append, List.countP_append]
    by_cases e : i = n
    · subst e
      have : (List.range i).countP p = (List.range i).countP q := by
        apply List.countP_congr
        intro x hx
        rw [hj x (by have := List.mem_range.1 hx; omega)]
      simp [hp, hq, this]
    · have := countP_one (n := n) (i := i) (by omega) hp hq hj
      simp [hj n (fun h => e h.symm), this]; omega
theorem countP_same {p q : Nat → Bool} {n : Nat} (h : ∀ j, j < n → q j = p j) : (List.range n).countP q = (List.range n).countP p := by
  apply List.countP_congr
  intro x hx
  rw [h x (List.mem_range.1 hx)]
theorem running_end {s : X} {i m : Nat} (hi : i < s.n) (hl : s.ended.length = s.n) (hm : s.left i = some m) (he : s.ended.getD i 0 < 0) (h1 : m ≤ 1) : s.running = (s.go i m).running + 1 := by
  unfold running
  refine countP_one (i := i) hi ?_ ?_ ?_
  · unfold live; rw [hm]; simp; simpa using he
  · unfold live go; simp only [if_pos h1]; rw [getD_set _ _ _ _ (by omega), if_pos rfl]; simp
  · intro j hj
    unfold live go; simp only [if_pos h1]; rw [getD_set _ _ _ _ (by omega), if_neg hj, if_neg hj]
theorem running_on {s : X} {i m : Nat} (hm : s.left i = some m) (h1 : ¬ m ≤ 1) : (s.go i m).running = s.running := by
  unfold running
  refine countP_same fun j _ => ?_
  unfold live go; simp only [if_neg h1]
  by_cases e : j = i
  · subst e; rw [if_pos rfl, hm]; rfl
  · rw [if_neg e]
theorem running_le (s : X) : s.running ≤ s.n := by
  unfold running
  have := List.countP_le_length (p := s.live) (l := List.range s.n)
  simpa using this
/-! ### the reference: a machine's steps are counted in the log -/
structure RefOk (s : X) (need : Nat → Nat) : Prop where
  left : ∀ i, i < s.n → s.left i = some (need i - s.steps.count (i : Int))
  more : ∀ i, i < s.n → s.ended.getD i 0 < 0 → s.steps.count (i : Int) < need i
theorem RefOk.go {s : X} {need : Nat → Nat} {i : Nat} (h : s.RefOk need) (hl : s.ended.length = s.n) (hi : i < s.n) (he : s.ended.getD i 0 < 0) : (s.go i (need i - s.steps.count (i : Int))).RefOk need := by
  have hc := h.more i hi he
  refine ⟨fun j hj => ?_, fun j hj hej => ?_⟩
  · unfold X.go; simp only [List.count_append]
    by_cases e : j = i
    · subst e; rw [if_pos rfl]; simp; omega
    · rw [if_neg e, h.left j hj]
      have : List.count (j : Int) [(i : Int)] = 0 := by simp [List.count_cons]; omega
      rw [this]; rfl
  · unfold X.go at hej ⊢; simp only [List.count_append] at hej ⊢
    by_cases e : j = i
    · subst e
      have : List.count (j : Int) [(j : Int)] = 1 := by simp
      rw [this]
      by_cases h1 : need j - List.count (↑j) s.steps ≤ 1
      · rw [if_pos h1, getD_set _ _ _ _ (by omega), if_pos rfl] at hej; omega
      · omega
    · have : List.count (j : Int) [(i : Int)] = 0 := by simp [List.count_cons]; omega
      rw [this]
      refine h.more j hj ?_
      split at hej
      · rwa [getD_set _ _ _ _ (by omega), if_neg e] at hej
      · exact hej
theorem RefOk.step {s : X} {need : Nat → Nat} {i : Nat} (h : s.RefOk need) (hl : s.ended.length = s.n) (hi : i < s.n) : (s.step i).RefOk need := by
  by_cases he : s.ended.getD i 0 < 0
  · rw [step_go (h.left i hi) he]; exact h.go hl hi he
  · rw [step_over (h.left i hi) (by omega)]; exact h
end X
end Go.Proofs.Ythnaogfcffmphaa.Sched
