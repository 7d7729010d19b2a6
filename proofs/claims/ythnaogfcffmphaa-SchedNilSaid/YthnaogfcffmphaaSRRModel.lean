/-
  SCHED: round robin as plain data. No model's run in this text.
-/
import Derived.Test.YthnaogfcffmphaaSModel
set_option linter.unusedVariables false
set_option linter.unusedSimpArgs false
namespace Go.Proofs.Ythnaogfcffmphaa.Sched
open Go Go.Proofs
namespace X
def sweep (bd : Int) : List Nat → X → X
  | [], s => s
  | i :: l, s => if bd ≤ (s.steps.length : Int) then s else sweep bd l (s.step i)
def rr (bd : Int) : Nat → X → X
  | 0, s => s
  | f + 1, s => if s.running = 0 ∨ bd ≤ (s.steps.length : Int) then s else rr bd f (sweep bd (List.range s.n) s)
theorem sweep_stop {bd : Int} {s : X} (h : bd ≤ (s.steps.length : Int)) (l : List Nat) : sweep bd l s = s := by
  cases l with
  | nil => rfl
  | cons i l => unfold sweep; rw [if_pos h]
theorem sweep_cons {bd : Int} {s : X} (h : ¬ bd ≤ (s.steps.length : Int)) (i : Nat) (l : List Nat) : sweep bd (i :: l) s = sweep bd l (s.step i) := by
  rw [sweep, if_neg h]
theorem rr_stop {bd : Int} {s : X} (h : s.running = 0 ∨ bd ≤ (s.steps.length : Int)) (f : Nat) : rr bd f s = s := by
  cases f with
  | zero => rfl
  | succ f => rw [rr, if_pos h]
theorem rr_go {bd : Int} {s : X} (h : s.running ≠ 0) (f : Nat) : rr bd (f + 1) s = rr bd f (sweep bd (List.range s.n) s) := by
  by_cases hb : bd ≤ (s.steps.length : Int)
  · rw [rr_stop (.inr hb), sweep_stop hb, rr_stop (.inr hb)]
  · rw [rr, if_neg (by rintro (h1 | h1); exact h h1; exact hb h1)]
/-- The numbers from k on. -/
def from_ (n k : Nat) : List Nat := List.range' k (n - k)
theorem from_zero (n : Nat) : from_ n 0 = List.range n := by unfold from_; rw [Nat.sub_zero, List.range_eq_range']
theorem from_lt {n k : Nat} (h : k < n) : from_ n k = k :: from_ n (k + 1) := by
  unfold from_
  rw [show n - k = (n - (k + 1)) + 1 by omega, List.range'_succ]
theorem from_end (n : Nat) : from_ n n = [] := by unfold from_; rw [Nat.sub_self]; rfl
/-! ### how many steps there can be -/
def weight (s : X) (i : Nat) : Nat := if s.live i then (s.left i).getD 0 else 0
def tot (s : X) : Nat := ((List.range s.n).map s.weight).sum
def Pos (s : X) : Prop := ∀ i m, i < s.n → s.live i = true → s.left i = some m → 1 ≤ m
theorem sum_one {p q : Nat → Nat} : ∀ {n i : Nat}, i < n → p i = q i + 1 → (∀ j, j ≠ i → q j = p j) → ((List.range n).map p).sum = ((List.range n).map q).sum + 1
  | 0, i, h, _, _ => absurd h (by omega)
  | n + 1, i, h, hp, hj => by
    rw [List.range_succ, List.map_append, List.map_append, List.sum_append, List.sum_append]
    by_cases e : i = n
    · subst e
      have : (List.range i).map p = (List.range i).map q := List.map_congr_left fun x hx => (hj x (by have := List.mem_range.1 hx; omega)).symm
      simp [this, hp]; omega
    · have := sum_one (n := n) (i := i) (by omega) hp hj
      simp [hj n (fun h => e h.symm), this]; omega
theorem live_go {s : X} {i m : Nat} (hi : i < s.n) (hl : s.ended.length = s.n) (hm : s.left i = some m) (he : s.ended.getD i 0 < 0) : (s.go i m).live i = decide (¬ m ≤ 1) := by
  unfold live
  rw [left_same]
  by_cases h1 : m ≤ 1
  · have : (s.go i m).ended = s.ended.set i s.steps.length := if_pos h1
    rw [this, getD_set _ _ _ _ (by omega), if_pos rfl]
    simp [h1]
  · have : (s.go i m).ended = s.ended := if_neg h1
    rw [this]
    simp [h1]
    simpa using he
theorem live_go_other {s : X} {i j m : Nat} (hj : j ≠ i) (hl : s.ended.length = s.n) (hi : i < s.n) : (s.go i m).live j = s.live j := by
  unfold live
  rw [left_other _ _ _ hj]
  have : (s.go i m).ended.getD j 0 = s.ended.getD j 0 := by
    show (if m ≤ 1 then s.ended.set i s.steps.length else s.ended).getD j 0 = _
    split
    · rw [getD_set _ _ _ _ (by omega), if_neg hj]
    · rfl
  rw [this]
theorem live_of {s : X} {i m : Nat} (hm : s.left i = some m) (he : s.ended.getD i 0 < 0) : s.live i = true := by
  unfold live; rw [hm]; simp; simpa using he
theorem tot_go {s : X} {i m : Nat} (hp : s.Pos) (hi : i < s.n) (hl : s.ended.length = s.n) (hm : s.left i = some m) (he : s.ended.getD i 0 < 0) : s.tot = (s.go i m).tot + 1 := by
  have h1 := hp i m hi (live_of hm he) hm
  unfold tot
  refine sum_one (i := i) hi ?_ ?_
  · unfold weight
    rw [live_of hm he, live_go hi hl hm he, hm, left_same]
    by_cases h : m ≤ 1
    · simp [h]; omega
    · simp [h]; omega
  · intro j hj
    unfold weight
    rw [live_go_other hj hl hi, left_other _ _ _ hj]
theorem Pos.go {s : X} {i m : Nat} (hp : s.Pos) (hi : i < s.n) (hl : s.ended.length = s.n) (hm : s.left i = some m) (he : s.ended.getD i 0 < 0) : (s.go i m).Pos := fun j k hj hlv hk => by
  by_cases e : j = i
  · subst e
    rw [live_go hi hl hm he] at hlv
    rw [left_same] at hk
    injection hk with hk
    simp at hlv
    omega
  · rw [live_go_other e hl hi] at hlv
    rw [left_other _ _ _ e] at hk
    exact hp j k hj hlv hk
/-- What stays true through all steps: T steps in all. -/
structure Bounded (s : X) (T : Nat) : Prop where
  pos : s.Pos
  len : s.ended.length = s.n
  tot : s.steps.length + s.tot = T
theorem step_cases (s : X) (i : Nat) : s.step i = s ∨ ∃ m, s.left i = some m ∧ s.ended.getD i 0 < 0 ∧ s.step i = s.go i m := by
  rcases h : s.left i with _ | m
  · exact .inl (step_none h)
  · by_cases he : s.ended.getD i 0 < 0
    · exact .inr ⟨m, rfl, he, step_go h he⟩
    · exact .inl (step_over h (by omega))
theorem Bounded.step {s : X} {T : Nat} (h : s.Bounded T) {i : Nat} (hi : i < s.n) : (s.step i).Bounded T := by
  rcases step_cases s i with e | ⟨m, hm, he, e⟩
  · rw [e]; exact h
  · rw [e]
    have h1 := tot_go h.pos hi h.len hm he
    have h2 := h.tot
    refine ⟨h.pos.go hi h.len hm he, ?_, ?_⟩
    · show (if m ≤ 1 then s.ended.set i s.steps.length else s.ended).length = s.n
      split <;> simp [h.len]
    · show (s.steps ++ [(i : Int)]).length + _ = T
      rw [List.length_append, List.length_singleton]; omega
/-- Since the round's start some step has been done, or all machines so far had ended. -/
def Moved (s0 s : X) (k : Nat) : Prop := s0.steps.length < s.steps.length ∨ (s = s0 ∧ ∀ i, i < k → s0.live i = false)
theorem Moved.step {s0 s : X} {k : Nat} (h : Moved s0 s k) : Moved s0 (s.step k) (k + 1) := by
  rcases h with h | ⟨rfl, h⟩
  · left
    rcases step_cases s k with e | ⟨m, _, _, e⟩
    · rw [e]; exact h
    · rw [e]; show _ < (s.steps ++ [(k : Int)]).length; rw [List.length_append]; omega
  · rcases hl : s.left k with _ | m
    · right
      refine ⟨step_none hl, fun i hi => ?_⟩
      by_cases e : i = k
      · subst e; unfold live; rw [hl]; rfl
      · exact h i (by omega)
    · by_cases he : s.ended.getD k 0 < 0
      · left; rw [step_go hl he]; show _ < (s.steps ++ [(k : Int)]).length; rw [List.length_append]; simp
      · right
        refine ⟨step_over hl (by omega), fun i hi => ?_⟩
        by_cases e : i = k
        · subst e; unfold live; rw [hl]; simp; simpa using he
        · exact h i (by omega)
theorem Moved.all {s0 s : X} (h : Moved s0 s s0.n) (hr : s0.running ≠ 0) : s0.steps.length < s.steps.length := by
  rcases h with h | ⟨_, h⟩
  · exact h
  · exfalso
    apply hr
    unfold running
    rw [List.countP_eq_zero]
    intro i hi
    rw [h i (List.mem_range.1 hi)]; simp
/-- All have ended: none runs. -/
theorem running_zero {s : X} (hl : ∀ i, i < s.n → (s.left i).isSome = true) : s.running = 0 ↔ ∀ i, i < s.n → 0 ≤ s.ended.getD i 0 := by
  unfold running
  rw [List.countP_eq_zero]
  constructor
  · intro h i hi
    have := h i (List.mem_range.2 hi)
    unfold live at this
    rw [hl i hi] at this
    simp at this
    simpa using this
  · intro h i hi
    have := h i (List.mem_range.1 hi)
    unfold live
    rw [hl i (List.mem_range.1 hi)]
    simp
    simpa using this
end X
end Go.Proofs.Ythnaogfcffmphaa.Sched
