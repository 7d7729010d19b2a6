/-
  DEVICE: Off, Executed, Arm, Thread, Err, ID, lineAt, History, WriteBack.
-/
import Derived.Test.YthnaogfcffmphaaDOps
set_option linter.unusedVariables false
set_option linter.unusedSimpArgs false
namespace Go.Proofs.Ythnaogfcffmphaa.Dev
open Go.ChangeShapes Go.WideShapes Go.ChangeAt Go.RowKit Go.Proofs.Ythnaogfcffmphaa.Mem
theorem thread_any (w : World) (d t : Nat) (ht : t < 8) :
    Calls Try.prog 30 #[.pointer (some ⟨d, 0, none⟩), .int .i64 (t : Int)] w fun r w' => r = .returned (.pointer (some ⟨d, 1 + t * 4, none⟩)) ∧ w' = w := by
  have h8 : (t : Int) < 8 := by omega
  go_enter Try.func30, Try.ntmps30
  go_wp2
  go_ret
  exact ⟨rfl, rfl⟩
theorem thread_out (w : World) (d : Nat) (t : Int) (ht : t < 0 ∨ 8 ≤ t) :
    Calls Try.prog 30 #[.pointer (some ⟨d, 0, none⟩), .int .i64 t] w fun r w' => r = .returned (.pointer none) ∧ w' = w := by
  rcases ht with ht | ht
  · go_enter Try.func30, Try.ntmps30
    go_wp2
    go_ret
    exact ⟨rfl, rfl⟩
  · have h0 : ¬ t < 0 := by omega
    go_enter Try.func30, Try.ntmps30
    go_wp2
    go_ret
    exact ⟨rfl, rfl⟩
theorem lineAt_any (w : World) (A : Adr) (S : St) (l : Nat) (h : DB w A S) (hl : l < S.n) (hn : S.n ≤ 4096) :
    Calls Try.prog 46 #[.pointer (some ⟨A.d, 0, none⟩), .int .i64 (l : Int)] w fun r w' => r = .returned (.pointer (some ⟨A.lb, l * 18, none⟩)) ∧ w' = w := by
  have c := h.c0
  clear h
  generalize S.n = n at *
  have h1 : (l : Int) < (n : Int) := by omega
  go_enter Try.func46, Try.ntmps46
  go_wp2
  go_ret
  exact ⟨rfl, rfl⟩
theorem lineAt_out (w : World) (A : Adr) (S : St) (l : Int) (h : DB w A S) (hl : l < 0 ∨ (S.n : Int) ≤ l) (hn : S.n ≤ 4096) :
    Calls Try.prog 46 #[.pointer (some ⟨A.d, 0, none⟩), .int .i64 l] w fun r w' => r = .returned (.pointer none) ∧ w' = w := by
  have c := h.c0
  clear h
  generalize S.n = n at *
  rcases hl with ht | ht
  · go_enter Try.func46, Try.ntmps46
    go_wp2
    go_ret
    exact ⟨rfl, rfl⟩
  · have h0 : ¬ l < 0 := by omega
    go_enter Try.func46, Try.ntmps46
    go_wp2
    go_ret
    exact ⟨rfl, rfl⟩
theorem history_any (w : World) (base M : Nat) (A : Adr) (S : St) (l : Nat) (h : IsDev w base A S) (hS : S.Ok M) (hM : M ≤ 1000000) (hl : l < S.n) :
    Calls Try.prog 32 #[.pointer (some ⟨A.d, 0, none⟩), .int .i64 (l : Int)] w fun r w' => ∃ v, r = .returned v ∧ Hid (Hist w' w.heap.size v (S.hist l) ∧ Below w.heap.size w w') := by
  have HL := Lib.hid (lineAt_any w A S l h.db hl hS.n1)
  have HC := Lib.hid (clone_any w base (A.hv l) (S.hist l) (h.hist l hl) (by have := hS.sum l; omega))
  have c := h.lines.cell (o := l * 18 + 16) (by omega)
  rw [linesG_hist] at c
  clear h hS
  go_enter Try.func32, Try.ntmps32
  go_wp2_with (first
    | (go_at_call 46; refine HL.out.mono ?_; rintro e w' ⟨rfl, rfl⟩)
    | (go_at_call 47; refine HC.out.mono ?_; rintro e w1 ⟨v, rfl, HQ⟩))
  go_ret
  exact ⟨_, rfl, HQ⟩
end Go.Proofs.Ythnaogfcffmphaa.Dev
