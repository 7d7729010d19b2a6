/-
  DEVICE: Off, Executed, Arm, Thread, Err, ID, lineAt, History, WriteBack.
-/
import Derived.Test.YtcoknkhgilbpdaaDOps
set_option linter.unusedVariables false
set_option linter.unusedSimpArgs false
namespace Go.Proofs.Ytcoknkhgilbpdaa.Dev
open Go.ChangeShapes Go.WideShapes Go.ChangeAt Go.RowKit Go.Proofs.Ytcoknkhgilbpdaa.Mem
theorem err_any (w : World) (A : Adr) (S : St) (t : Nat) (h : DB w A S) (ht : t < 8) :
    Calls Try.prog 126 #[.pointer (some ⟨A.d, 1 + t * 4, none⟩)] w fun r w' => r = .returned (.int .i64 (S.err t : Int)) ∧ w' = w := by
  have c := h.cell (o := 1 + t * 4 + 2) (by omega)
  rw [devG_err _ _ ht] at c
  clear h
  generalize S.err t = b at *
  go_enter Try.func126, Try.ntmps126
  go_wp2
  go_ret
  exact ⟨rfl, rfl⟩
theorem thread_any (w : World) (d t : Nat) (ht : t < 8) :
    Calls Try.prog 51 #[.pointer (some ⟨d, 0, none⟩), .int .i64 (t : Int)] w fun r w' => r = .returned (.pointer (some ⟨d, 1 + t * 4, none⟩)) ∧ w' = w := by
  have h8 : (t : Int) < 8 := by omega
  go_enter Try.func51, Try.ntmps51
  go_wp2
  go_ret
  exact ⟨rfl, rfl⟩
theorem thread_out (w : World) (d : Nat) (t : Int) (ht : t < 0 ∨ 8 ≤ t) :
    Calls Try.prog 51 #[.pointer (some ⟨d, 0, none⟩), .int .i64 t] w fun r w' => r = .returned (.pointer none) ∧ w' = w := by
  rcases ht with ht | ht
  · go_enter Try.func51, Try.ntmps51
    go_wp2
    go_ret
    exact ⟨rfl, rfl⟩
  · have h0 : ¬ t < 0 := by omega
    go_enter Try.func51, Try.ntmps51
    go_wp2
    go_ret
    exact ⟨rfl, rfl⟩
end Go.Proofs.Ytcoknkhgilbpdaa.Dev
