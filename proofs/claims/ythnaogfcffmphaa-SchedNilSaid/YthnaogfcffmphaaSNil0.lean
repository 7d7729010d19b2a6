/-
  SCHED, THE LAW SchedNil: what it wants besides.
-/
import Derived.Test.YthnaogfcffmphaaSRounds0
set_option linter.unusedVariables false
set_option linter.unusedSimpArgs false
namespace Go.Proofs.Ythnaogfcffmphaa.Sched
open Go.ChangeShapes Go.WideShapes Go.ChangeAt Go.RowKit Go.Proofs.Ythnaogfcffmphaa.Mem Go.Proofs.Ythnaogfcffmphaa.Law Go.Proofs.Ythnaogfcffmphaa.Args Go.Proofs.Ythnaogfcffmphaa.Own
def leftNil (k : Nat) : Nat → Option Nat := fun i => if i = 1 then some k else none
def noLeft : Nat → Option Nat := fun _ => none
theorem nilLit (k : Nat) (h1 : 1 ≤ k) (h2 : k ≤ 5) : (X.rr 10 (k + 1) (X.init 2 (leftNil k))).steps.length = k ∧ (X.rr 10 (k + 1) (X.init 2 (leftNil k))).ended = [-1, (k : Int) - 1] ∧ (X.rr 10 (k + 1) (X.init 2 (leftNil k))).running = 0 ∧ (X.init 2 (leftNil k)).tot = k := by
  have : k = 1 ∨ k = 2 ∨ k = 3 ∨ k = 4 ∨ k = 5 := by omega
  rcases this with rfl | rfl | rfl | rfl | rfl <;> exact ⟨by decide, by decide, by decide, by decide⟩
theorem nilInv (k : Nat) (h1 : 1 ≤ k) (h2 : k ≤ 5) : RRInv (X.init 2 (leftNil k)) (X.init 2 (leftNil k)) k := by
  refine ⟨⟨fun i m _ _ hm => ?_, by simp [X.init], by rw [(nilLit k h1 h2).2.2.2]; simp [X.init]⟩, fun i m hm => ?_, rfl, fun _ => rfl⟩
  all_goals
    have hm' : leftNil k i = some m := hm
    unfold leftNil at hm'
    split at hm'
    · injection hm' with hm'; omega
    · cases hm'
theorem run0 (ps : List Int) : (X.init 0 noLeft).run ps = X.init 0 noLeft := by
  unfold X.run
  induction ps with
  | nil => rfl
  | cons p ps ih => rw [List.foldl_cons, pick_none (.inr rfl)]; exact ih
theorem rr0 (bd : Int) (f : Nat) : X.rr bd f (X.init 0 noLeft) = X.init 0 noLeft := X.rr_stop (.inl (by decide)) f
theorem inv0 : RRInv (X.init 0 noLeft) (X.init 0 noLeft) 0 := ⟨⟨fun i m hi _ _ => absurd hi (by simp [X.init]), rfl, rfl⟩, fun i m hm => (by cases hm), rfl, fun _ => rfl⟩
theorem objs0 (w : World) : IsObjs w ⟨0, fun _ => 0, none, 0, .nilIface, .nilIface⟩ (X.init 0 noLeft) := ⟨.inl rfl, fun i hi => absurd hi (by simp [X.init]), fun i j hi => absurd hi (by simp [X.init])⟩
theorem objsNil {w : World} {g k : Nat} (h : IsSteps w g k) : IsObjs (w.alloc (.cells #[.nilIface, .iface 41 (.pointer (some ⟨g, 0, none⟩))] 83)) ⟨0, fun _ => g, some ⟨w.heap.size, 0, none⟩, 2, .nilIface, .nilIface⟩ (X.init 2 (leftNil k)) := by
  refine ⟨.inr ⟨w.heap.size, rfl, Blk.newOf w _ _ rfl (fun o ho => ?_)⟩, fun i hi m hm => ?_, fun i j hi hj h1 h2 _ => ?_⟩
  · have ho2 : o < 2 := ho
    rcases o with _ | _ | o
    · rfl
    · rfl
    · omega
  · have hm' : leftNil k i = some m := hm
    unfold leftNil at hm'
    split at hm'
    · injection hm' with hm'; subst hm'; exact Blk.alloc h _
    · cases hm'
  · have a1 : (leftNil k i).isSome = true := h1
    have a2 : (leftNil k j).isSome = true := h2
    unfold leftNil at a1 a2
    have : i = 1 := by
      by_cases e : i = 1
      · exact e
      · rw [if_neg e] at a1; cases a1
    have : j = 1 := by
      by_cases e : j = 1
      · exact e
      · rw [if_neg e] at a2; cases a2
    omega
end Go.Proofs.Ythnaogfcffmphaa.Sched
