/-
  DEVICE: persist at the device's line; WriteBack.
-/
import Derived.Test.YtnhddgmegnehaaaDoorDMore
set_option linter.unusedVariables false
set_option linter.unusedSimpArgs false
namespace Go.Proofs.YtnhddgmegnehaaaDoor.Dev
open Go.ChangeShapes Go.WideShapes Go.ChangeAt Go.RowKit Go.Proofs.YtnhddgmegnehaaaDoor.Mem
theorem St.pst_cur (S : St) (l k : Nat) (hk : k ≤ (S.hist l).length) (i : Nat) : (S.pst l k).cur i = S.cur i := by
  unfold St.cur St.pst
  simp only
  by_cases h : i = l
  · subst h; rw [if_pos rfl, if_pos rfl, ← applyW_append, List.take_append_drop]
  · rw [if_neg h, if_neg h]
/-- What persistTo's and persist's contracts leave, said of the device. -/
theorem IsDev.persisted {w w' : World} {base : Nat} {A : Adr} {S : St} (h : IsDev w base A S) {l k : Nat} (hl : l < S.n) (hk : k ≤ (S.hist l).length) {hv' : Value} {g' : Nat → Value}
    (q1 : Blk w' A.lb 81 (S.n * 18) g') (q2 : ∀ o, o < l * 18 ∨ l * 18 + 18 ≤ o → g' o = linesG A S o) (q3 : ∀ j, j < 8 → g' (l * 18 + j) = wordG (applyW (S.pers l) ((S.hist l).take k)) j)
    (q4 : ∀ j, j < 8 → g' (l * 18 + 8 + j) = linesG A S (l * 18 + 8 + j)) (q5 : g' (l * 18 + 16) = hv') (q6 : g' (l * 18 + 17) = .int .u64 ((S.gone l + k : Nat) : Int)) (q7 : Hist w' base hv' ((S.hist l).drop k))
    (q8 : Only (fun b => b = A.lb ∨ (A.hv l).ownBlock = some b) w w') (q9 : hv'.ownBlock = (A.hv l).ownBlock) : Step w w' base A S (S.pst l k) := by
  refine h.line hl rfl rfl rfl rfl rfl rfl (fun i hi => ⟨if_neg hi, if_neg hi, if_neg hi⟩) hv' g' q1 q2 (fun j hj => ?_) (fun j hj => ?_) q5 ?_ ?_ q8 (.inl q9)
  · rw [q3 j hj]; unfold St.pst; simp only [if_true]
  · rw [q4 j hj, linesG_cur _ _ _ _ hj, St.pst_cur _ _ _ hk]
  · rw [q6]; unfold St.pst; simp only [if_true]
  · unfold St.pst; simp only [if_true]; exact q7
/-- What persistTo's and persist's contracts leave, said of the device. -/
theorem IsDev.persistedI {w w' : World} {base : Nat} {A : Adr} {S : St} (h : IsDev w base A S) {l k : Nat} (hl : l < S.n) (hk : k ≤ (S.hist l).length) {hv' : Value} {g' : Nat → Value}
    (q1 : Blk w' A.lb 81 (S.n * 18) g') (q2 : ∀ o, o < l * 18 ∨ l * 18 + 18 ≤ o → g' o = linesG A S o) (q3 : ∀ j, j < 8 → g' (l * 18 + j) = wordG (applyW (S.pers l) ((S.hist l).take k)) j)
    (q4 : ∀ j, j < 8 → g' (l * 18 + 8 + j) = linesG A S (l * 18 + 8 + j)) (q5 : g' (l * 18 + 16) = hv') (q6 : g' (l * 18 + 17) = .int .u64 ((S.gone l + k : Nat) : Int)) (q7 : Hist w' base hv' ((S.hist l).drop k))
    (q8 : Only (fun b => b = A.lb ∨ (A.hv l).ownBlock = some b) w w') (q9 : hv'.ownBlock = (A.hv l).ownBlock) : IsDev w' base { A with hv := fun i => if i = l then hv' else A.hv i } (S.pst l k) := by
  refine h.lineI (S' := S.pst l k) hl rfl rfl rfl rfl rfl rfl (fun i hi => ⟨if_neg hi, if_neg hi, if_neg hi⟩) hv' g' q1 q2 (fun j hj => ?_) (fun j hj => ?_) q5 ?_ ?_ q8 (.inl q9)
  · rw [q3 j hj]; unfold St.pst; simp only [if_true]
  · rw [q4 j hj, linesG_cur _ _ _ _ hj, St.pst_cur _ _ _ hk]
  · rw [q6]; unfold St.pst; simp only [if_true]
  · unfold St.pst; simp only [if_true]; exact q7
theorem hist_slice {w : World} {base : Nat} {v : Value} {hs : List (Nat × Nat)} (h : Hist w base v hs) : ∃ a c, v = .slice a hs.length c := by
  rcases h.form with ⟨rfl, rfl⟩ | ⟨g, cap, cur, rfl, _⟩
  · exact ⟨_, _, rfl⟩
  · exact ⟨_, _, rfl⟩
end Go.Proofs.YtnhddgmegnehaaaDoor.Dev
