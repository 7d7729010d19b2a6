/-
  DEVICE, THE SMALL FUNCTIONS OF A LINE: place, lineOf, end. What each returns; the world stays.
-/
import Derived.Test.YtnhddgmegnehaaaDoorRows
import Derived.Test.YtnhddgmegnehaaaDoorBlk
import Derived.IntWalk
import Derived.OpenShut
import Derived.Deep.QuietTactic
import Derived.BigQuiet
import Derived.Handy
import Derived.StillTailTactics
import Derived.Deep.MidRow
import Derived.Deep.RegionHeld3
import Derived.RegionTactic
import Derived.WalkSpells
set_option linter.unusedVariables false
set_option linter.unusedSimpArgs false
namespace Go.Proofs.YtnhddgmegnehaaaDoor.Dev
open Go.ChangeShapes Go.WideShapes Go.ChangeAt Go.RowKit Go.Proofs.YtnhddgmegnehaaaDoor.Mem
theorem ret_int {k : IntKind} {a b : Int} (h : a = b) : Ending.returned (.int k a) = .returned (.int k b) := by rw [h]
theorem ret_bool {a b : Bool} (h : a = b) : Ending.returned (.bool a) = .returned (.bool b) := by rw [h]
theorem place_any (o : Nat) (w : World) (ho : o < 18446744073709551616) : Calls Tryd.prog 67 #[.int .u64 (o : Int)] w fun e w' => e = .returned (.int .u64 ((o / 8 % 8 : Nat) : Int)) ∧ w = w' := by
  go_enter Tryd.func67, Tryd.ntmps67
  go_wp2
  go_ret
  exact ⟨ret_int (by simp), rfl⟩
end Go.Proofs.YtnhddgmegnehaaaDoor.Dev
