/-
  DEVICE, THE SMALL FUNCTIONS OF A LINE: place, lineOf, end. What each returns; the world stays.
-/
import Derived.Test.YtcoknkhgilbpdaaRows
import Derived.Test.YtcoknkhgilbpdaaBlk
import Derived.IntWalk
import Derived.OpenShut
import Derived.Deep.QuietTactic
import Derived.BigQuiet
import Derived.Handy
import Derived.StillTailTactics
import Derived.Deep.MidRow
import Derived.Deep.RegionHeld3
import Derived.RegionTactic
import Derived.WalkSpells
set_option linter.unusedVariables false
set_option linter.unusedSimpArgs false
namespace Go.Proofs.Ytcoknkhgilbpdaa.Dev
open Go.ChangeShapes Go.WideShapes Go.ChangeAt Go.RowKit Go.Proofs.Ytcoknkhgilbpdaa.Mem
theorem ret_int {k : IntKind} {a b : Int} (h : a = b) : Ending.returned (.int k a) = .returned (.int k b) := by rw [h]
theorem ret_bool {a b : Bool} (h : a = b) : Ending.returned (.bool a) = .returned (.bool b) := by rw [h]
theorem place_any (o : Nat) (w : World) (ho : o < 18446744073709551616) : Calls Try.prog 95 #[.int .u64 (o : Int)] w fun e w' => e = .returned (.int .u64 ((o / 8 % 8 : Nat) : Int)) ∧ w = w' := by
  go_enter Try.func95, Try.ntmps95
  go_wp2
  go_ret
  exact ⟨ret_int (by simp), rfl⟩
theorem lineOf_any (d lb n k c : Nat) (w : World) (hc : w.cell? ⟨d, 0, none⟩ = some (.slice (some ⟨lb, 0, none⟩) n c)) (o : Nat) (ho : o < 18446744073709551616) (hk : o / 64 = k) (hkn : k < n) (hn : n ≤ 4096) :
    Calls Try.prog 79 #[.pointer (some ⟨d, 0, none⟩), .int .u64 (o : Int)] w fun e w' => e = .returned (.pointer (some ⟨lb, k * 18, none⟩)) ∧ w = w' := by
  have hd : (o : Int) / 64 = (k : Int) := by omega
  have HK := Lib.hid hk
  clear hk
  go_enter Try.func79, Try.ntmps79
  go_wp2
  go_ret
  exact ⟨rfl, rfl⟩
end Go.Proofs.Ytcoknkhgilbpdaa.Dev
