/-
  SCHED, THE LAW SchedRounds: what it wants besides.
-/
import Derived.Test.YthnaogfcffmphaaSRefRobin
import Derived.Test.YthnaogfcffmphaaSFew
set_option linter.unusedVariables false
set_option linter.unusedSimpArgs false
namespace Go.Proofs.Ythnaogfcffmphaa.Sched
open Go.ChangeShapes Go.WideShapes Go.ChangeAt Go.RowKit Go.Proofs.Ythnaogfcffmphaa.Mem Go.Proofs.Ythnaogfcffmphaa.Law Go.Proofs.Ythnaogfcffmphaa.Args Go.Proofs.Ythnaogfcffmphaa.Own
theorem sweep_inv {s0 : X} {nd : Nat → Nat} {T : Nat} {bd : Int} : ∀ (l : List Nat) (s : X), (∀ i ∈ l, i < s0.n) → RRInv s0 s T → s.RefOk nd → RRInv s0 (X.sweep bd l s) T ∧ (X.sweep bd l s).RefOk nd
  | [], s, _, h, hr => ⟨h, hr⟩
  | i :: l, s, hl, h, hr => by
    have hi : i < s.n := by rw [h.n]; exact hl i (List.mem_cons_self ..)
    unfold X.sweep
    split
    · exact ⟨h, hr⟩
    · exact sweep_inv l (s.step i) (fun j hj => hl j (List.mem_cons_of_mem _ hj)) (h.step hi) (hr.step h.bounded.len hi)
theorem rr_inv {s0 : X} {nd : Nat → Nat} {T : Nat} {bd : Int} : ∀ (f : Nat) (s : X), RRInv s0 s T → s.RefOk nd → RRInv s0 (X.rr bd f s) T ∧ (X.rr bd f s).RefOk nd
  | 0, s, h, hr => ⟨h, hr⟩
  | f + 1, s, h, hr => by
    unfold X.rr
    split
    · exact ⟨h, hr⟩
    · obtain ⟨h1, h2⟩ := sweep_inv (bd := bd) (List.range s.n) s (fun i hi => by rw [← h.n]; exact List.mem_range.1 hi) h hr
      exact rr_inv f _ h1 h2
theorem sum_le {n M : Nat} {p : Nat → Nat} (h : ∀ i, i < n → p i ≤ M) : ((List.range n).map p).sum ≤ n * M := by
  induction n with
  | zero => simp
  | succ n ih =>
    rw [List.range_succ, List.map_append, List.sum_append, Nat.add_mul, Nat.one_mul]
    have h1 := ih (fun i hi => h i (by omega))
    have h2 := h n (by omega)
    simp; omega
theorem need_le {z : Int} (h : z ≤ 20) : need z ≤ 20 := by have := need_max z; omega
theorem small_at {ys : List Int} (h : Small ys) (i : Nat) : ys.getD i 0 ≤ 20 := by
  by_cases hi : i < ys.length
  · rw [getD_at hi]; exact (h _ (List.getElem_mem hi)).2
  · simp [List.getD, hi]
theorem init_inv {m : Nat} {ys : List Int} (h : Small ys) : RRInv (X.init m (leftsOf ys)) (X.init m (leftsOf ys)) (X.init m (leftsOf ys)).tot ∧ (X.init m (leftsOf ys)).tot ≤ m * 20 := by
  refine ⟨⟨⟨fun i k _ _ hk => ?_, by simp [X.init], by simp [X.init]⟩, leftsOf_small h.wf, rfl, fun _ => rfl⟩, ?_⟩
  · have : need (ys.getD i 0) = k := by simpa [X.init, leftsOf] using hk
    rw [← this]; exact need_pos _
  · refine sum_le fun i _ => ?_
    unfold X.weight
    split
    · have : (X.init m (leftsOf ys)).left i = some (need (ys.getD i 0)) := rfl
      rw [this]
      exact need_le (small_at h i)
    · omega
end Go.Proofs.Ythnaogfcffmphaa.Sched
