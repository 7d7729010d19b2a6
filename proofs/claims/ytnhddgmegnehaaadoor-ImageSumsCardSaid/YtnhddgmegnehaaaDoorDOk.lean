/-
  DEVICE: what every operation keeps of a state's bounds.
-/
import Derived.Test.YtnhddgmegnehaaaDoorDNew
set_option linter.unusedVariables false
set_option linter.unusedSimpArgs false
namespace Go.Proofs.YtnhddgmegnehaaaDoor.Dev
namespace St
theorem Ok.more {S : St} {M N : Nat} (h : S.Ok M) (hMN : M ≤ N) : S.Ok N :=
  { h with sum := fun i => Nat.le_trans (h.sum i) hMN, ex := Nat.le_trans h.ex hMN }
theorem setErr_ok {S : St} {M : Nat} (h : S.Ok M) (t e : Nat) (he : e ≤ 3) : (S.setErr t e).Ok M :=
  { h with
    err := fun u => by
      show (if u = t ∧ S.err t = 0 then e else S.err u) ≤ 3
      split
      · exact he
      · exact h.err u }
theorem mayS_ok {S : St} {M : Nat} (h : S.Ok M) (t : Nat) (v : Bool) : (S.mayS t v).Ok M := by
  unfold mayS
  split
  · exact setErr_ok h t 3 (by omega)
  · split
    · exact h
    · exact setErr_ok h t 2 (by omega)
theorem tk_ok {S : St} {M : Nat} (h : S.Ok M) : S.tk.Ok (M + 1) := by
  unfold tk
  split
  · exact { h.more (Nat.le_succ M) with }
  · exact {
      h.more (Nat.le_succ M) with
      ex := by have := h.ex; show S.ex + 1 ≤ M + 1; omega
      left := fun m hm => by
        have hm : S.left.map (· - 1) = some m := hm
        cases hl : S.left with
        | none => rw [hl] at hm; cases hm
        | some x => rw [hl] at hm; have := h.left x hl; simp at hm; omega }
theorem cntS_ok {S : St} {M : Nat} (h : S.Ok M) (t : Nat) (v : Bool) : (S.cntS t v).Ok (M + 1) := by
  unfold cntS
  split
  · exact (setErr_ok h t 3 (by omega)).more (Nat.le_succ M)
  · split
    · split
      · exact setErr_ok (tk_ok h) t 3 (by omega)
      · exact tk_ok h
    · exact (setErr_ok h t 2 (by omega)).more (Nat.le_succ M)
theorem put_ok {S : St} {M : Nat} (h : S.Ok M) (o x : Nat) (h8 : o % 8 = 0) (ho : o < S.n * 64) (hx : x < 18446744073709551616) : (S.put o x).Ok (M + 1) :=
  { h with
    hist := fun i p hp => by
      have hp : p ∈ (if i = o / 64 then S.hist i ++ [(o, x)] else S.hist i) := hp
      split at hp
      · rename_i hi
        rcases List.mem_append.1 hp with hp | hp
        · exact h.hist i p hp
        · obtain rfl := List.mem_singleton.1 hp
          exact ⟨hi.symm, h8, ho, hx⟩
      · exact h.hist i p hp
    sum := fun i => by
      have := h.sum i
      show S.gone i + (if i = o / 64 then S.hist i ++ [(o, x)] else S.hist i).length ≤ M + 1
      split
      · rw [List.length_append]; simp; omega
      · omega
    ex := Nat.le_trans h.ex (Nat.le_succ M)
    note := fun t p hp => by
      have := h.note t p hp
      refine ⟨this.1, Nat.le_trans this.2 ?_⟩
      show S.gone p.1 + _ ≤ S.gone p.1 + (if p.1 = o / 64 then S.hist p.1 ++ [(o, x)] else S.hist p.1).length
      split
      · rw [List.length_append]; omega
      · omega }
theorem cnt_v {S : St} {v : Bool} (h : S.cnt v = true) : v = true := by
  unfold cnt at h; cases v <;> simp_all
theorem storeS_ok {S : St} {M : Nat} (h : S.Ok M) (t o x : Nat) (hx : x < 18446744073709551616) : (S.storeS t o x).Ok (M + 2) := by
  unfold storeS
  split
  · rename_i hc
    have hw := cnt_v hc
    unfold isW at hw
    simp only [Bool.and_eq_true, decide_eq_true_eq] at hw
    exact put_ok (cntS_ok h t _) o x hw.1 (by rw [cntS_n]; exact hw.2) hx
  · exact (cntS_ok h t _).more (by omega)
theorem storeS_n (S : St) (t o x : Nat) : (S.storeS t o x).n = S.n := by
  unfold storeS
  split
  · exact cntS_n S t _
  · exact cntS_n S t _
end St
end Go.Proofs.YtnhddgmegnehaaaDoor.Dev
