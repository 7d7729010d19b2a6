/-
  WHAT THE ROWS OF THIS SEAT LIST, as the walks ask for it; and a world that holds it, for the witness.
-/
import Derived.Test.YtnhddgmegnehaaaDoorIAwake
import Derived.Test.YtnhddgmegnehaaaDoorLaid
import Derived.Test.YtnhddgmegnehaaaDoorShaped
set_option linter.unusedVariables false
set_option linter.unusedSimpArgs false
namespace Go.Proofs.YtnhddgmegnehaaaDoor.Base
open Go.ChangeShapes Go.WideShapes Go.ChangeAt Go.RowKit Go.Proofs.YtnhddgmegnehaaaDoor.Law
theorem cellsPow : Tryd.prog.cellsOf 136 = 20 := by kernel_rfl
theorem cellsU64 : Tryd.prog.cellsOf 33 = 1 := by kernel_rfl
theorem cellsTz : Tryd.prog.cellsOf 150 = 64 := by kernel_rfl
theorem cellsU8 : Tryd.prog.cellsOf 5 = 1 := by kernel_rfl
def intsD : DataW Unit → List Int
  | .agg xs => xs.map fun | .lit (.int _ z) => z | _ => 0
  | _ => []
theorem env_of {l : List (String × DataW Unit)} {W : World} (h : laidMetH Tryd.prog l W)
    (hh : laidMetH Tryd.prog l W = laidMet Tryd.prog l W)
    (hf : l.filter (fun x => x.1 == "internal/strconv.uint64pow10") = [("internal/strconv.uint64pow10", Lib.tabData .u64 Lib.pow10Tab)])
    (hf2 : l.filter (fun x => x.1 == "math/bits.deBruijn64tab") = [("math/bits.deBruijn64tab", Lib.tabData .u8 (intsD Rows.laid_math_bits_deBruijn64tab))]) : Pow W.heap.size W ∧ Tz W.heap.size W := by
  rw [hh] at h
  have h2 := laidMet.filter (fun x => x.1 == "internal/strconv.uint64pow10") h
  rw [hf] at h2
  have hc := tab_in (k := .u8) (zs := intsD Rows.laid_math_bits_deBruijn64tab) (show Tryd.prog.globalNamed "math/bits.deBruijn64tab" = some 7 by kernel_rfl) (show (Tryd.prog.globals[7]?).map (·.type) = some 150 by kernel_rfl) Tryd.underlying150 Tryd.underlying5 cellsU8 cellsTz h hf2 15 (by decide)
  have e : (intsD Rows.laid_math_bits_deBruijn64tab).getD 15 0 = 4 := by rfl
  rw [e] at hc
  exact ⟨Lib.tabBelow_of_tabIs (Lib.tabIs_of_head (rest := []) (show Tryd.prog.globalNamed "internal/strconv.uint64pow10" = some 3 by kernel_rfl) (show (Tryd.prog.globals[3]?).map (·.type) = some 136 by kernel_rfl) Tryd.underlying136 Tryd.underlying33 cellsU64 cellsPow h2), Go.Proofs.YtnhddgmegnehaaaDoor.Args.cell_lt hc, hc⟩
theorem envs {W : World} (h : laidMetH Tryd.prog Rows.imageWordsRow.laid W) (hS : W.ShapedOpen Tryd.prog) : Pow W.heap.size W ∧ Tz W.heap.size W := env_of h rfl (by rfl) (by rfl)
noncomputable def laidWorldE (os : Os) : World := World.laidAll Tryd.prog os Rows.imageWordsRow.laid
end Go.Proofs.YtnhddgmegnehaaaDoor.Base
