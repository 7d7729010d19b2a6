/-
  THE LAWS' sameWrites: equal histories.
-/
import Derived.Test.YtmipodnfkilcfaaRNew
set_option linter.unusedVariables false
set_option linter.unusedSimpArgs false
namespace Go.Proofs.Ytmipodnfkilcfaa.Dev
open Go.ChangeShapes Go.WideShapes Go.ChangeAt Go.RowKit Go.Proofs.Ytmipodnfkilcfaa.Mem Go.Proofs.Ytmipodnfkilcfaa.Args Go.Proofs.Ytmipodnfkilcfaa.Own
def PairsAt (w : World) (C : Option Addr) (h : List (Nat × Nat)) : Prop :=
  ∀ j, j < h.length → ∃ g, C = some ⟨g, 0, none⟩ ∧ w.cell? ⟨g, j * 2, none⟩ = some (.int .u64 ((h.getD j (0, 0)).1 : Int)) ∧ w.cell? ⟨g, j * 2 + 1, none⟩ = some (.int .u64 ((h.getD j (0, 0)).2 : Int))
set_option maxRecDepth 100000 in
theorem sameWrites_any (w : World) (C D : Option Addr) (n c1 c2 : Nat) (h : List (Nat × Nat)) (hl : h.length = n) (hn : n ≤ 1000000) (h1 : PairsAt w C h) (h2 : PairsAt w D h) :
    Calls Try.prog 29 #[.slice C n c1, .slice D n c2] w fun e w' => e = .returned (.bool true) ∧ ∃ m, w' = w.drewN m := by
  have H1 := Lib.hid h1
  have H2 := Lib.hid h2
  have HL := Lib.hid hl
  clear h1 h2 hl
  go_enter Try.func29, Try.ntmps29
  go_wp2
  go_loopw [13] (fun i wr => ∃ k : Nat, k ≤ n ∧ i = .int .i64 k ∧ ∃ m, wr = w.drewN m) (fun i _ => n - (intOf i).toNat)
  case atStart => exact ⟨0, by omega, rfl, 0, rfl⟩
  case round =>
    obtain ⟨k, hk, rfl, m, rfl⟩ := hrel
    by_cases hlt : k < n
    · have hkl : (k : Int) < (n : Int) := by omega
      obtain ⟨g1, rfl, a1, a2⟩ := H1.out k (by rw [HL.out]; exact hlt)
      obtain ⟨g2, rfl, b1, b2⟩ := H2.out k (by rw [HL.out]; exact hlt)
      generalize (h.getD k (0, 0)).1 = x at *
      generalize (h.getD k (0, 0)).2 = y at *
      go_wp2
      go_quiet (fail)
      go_wp2
      go_roundw
      case rel => exact ⟨k + 1, by omega, by go_num, _, rfl⟩
      case measure => simp [intOf]; omega
    · have hkn : k = n := by omega
      have hkl : ¬ (k : Int) < (n : Int) := by omega
      subst hkn
      go_wp2
      go_ret
      exact ⟨rfl, _, rfl⟩
end Go.Proofs.Ytmipodnfkilcfaa.Dev
