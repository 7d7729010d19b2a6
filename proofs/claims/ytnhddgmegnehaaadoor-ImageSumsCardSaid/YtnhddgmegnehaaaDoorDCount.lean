/-
  DEVICE: Lines, Size, isWord, admit, count.
-/
import Derived.Test.YtnhddgmegnehaaaDoorDThread
set_option linter.unusedVariables false
set_option linter.unusedSimpArgs false
namespace Go.Proofs.YtnhddgmegnehaaaDoor.Dev
open Go.ChangeShapes Go.WideShapes Go.ChangeAt Go.RowKit Go.Proofs.YtnhddgmegnehaaaDoor.Mem
theorem DB.c0 {w : World} {A : Adr} {S : St} (h : DB w A S) : w.cell? ⟨A.d, 0, none⟩ = some (.slice (some ⟨A.lb, 0, none⟩) S.n A.cap) := by
  have := h.cell (o := 0) (by omega)
  simpa [devG] using this
theorem DB.cOff {w : World} {A : Adr} {S : St} (h : DB w A S) : w.cell? ⟨A.d, 34, none⟩ = some (.bool S.off) := by
  rw [h.cell (o := 34) (by omega)]; rfl
theorem DB.cPtr {w : World} {A : Adr} {S : St} (h : DB w A S) {t : Nat} (ht : t < 8) : w.cell? ⟨A.d, 1 + t * 4, none⟩ = some (.pointer (some ⟨A.d, 0, none⟩)) := by
  rw [h.cell (o := 1 + t * 4) (by omega), devG_ptr _ _ ht]
theorem lines_any (w : World) (A : Adr) (S : St) (h : DB w A S) :
    Calls Tryd.prog 30 #[.pointer (some ⟨A.d, 0, none⟩)] w fun r w' => r = .returned (.int .i64 (S.n : Int)) ∧ w' = w := by
  have c0 := h.c0
  clear h
  go_enter Tryd.func30, Tryd.ntmps30
  go_wp2
  go_ret
  exact ⟨rfl, rfl⟩
theorem lines_nil (w : World) : Calls Tryd.prog 30 #[.pointer none] w fun r w' => r = .returned (.int .i64 0) ∧ w' = w := by
  go_enter Tryd.func30, Tryd.ntmps30
  go_wp2
  go_ret
  exact ⟨rfl, rfl⟩
theorem size_any (w : World) (A : Adr) (S : St) (h : DB w A S) (hn : S.n ≤ 4096) :
    Calls Tryd.prog 44 #[.pointer (some ⟨A.d, 0, none⟩)] w fun r w' => r = .returned (.int .u64 ((S.n * 64 : Nat) : Int)) ∧ w' = w := by
  have HL := Lib.hid (lines_any w A S h)
  obtain ⟨n, hnn⟩ : ∃ n, S.n = n := ⟨_, rfl⟩
  rw [hnn] at hn HL ⊢
  clear h hnn
  go_enter Tryd.func44, Tryd.ntmps44
  go_wp2_with (go_at_call 30; refine HL.out.mono ?_; rintro e w' ⟨rfl, rfl⟩)
  go_ret
  exact ⟨ret_int (by simp), rfl⟩
theorem size_nil (w : World) : Calls Tryd.prog 44 #[.pointer none] w fun r w' => r = .returned (.int .u64 0) ∧ w' = w := by
  go_enter Tryd.func44, Tryd.ntmps44
  go_wp2_with (go_at_call 30; refine (lines_nil w).mono ?_; rintro e w' ⟨rfl, rfl⟩)
  go_ret
  exact ⟨rfl, rfl⟩
end Go.Proofs.YtnhddgmegnehaaaDoor.Dev
