/-
  WHAT THE ROWS OF THIS SEAT LIST: the library's tables, as cells; and a world that holds them, for the witness.
-/
import Derived.Test.YtkngmanfekcjmaaDoorRows
import Derived.Test.YtkngmanfekcjmaaDoorLaid
import Derived.Test.YtkngmanfekcjmaaDoorPText
set_option linter.unusedVariables false
set_option linter.unusedSimpArgs false
namespace Go.Proofs.YtkngmanfekcjmaaDoor.Base
open Go.ChangeShapes Go.WideShapes Go.ChangeAt Go.RowKit Go.Proofs.YtkngmanfekcjmaaDoor.Law
theorem cellsPow : Tryd.prog.cellsOf 102 = 20 := by kernel_rfl
theorem cellsU64 : Tryd.prog.cellsOf 22 = 1 := by kernel_rfl
theorem pow_of {l : List (String × DataW Unit)} {W : World} (h : laidMetH Tryd.prog l W)
    (hh : laidMetH Tryd.prog l W = laidMet Tryd.prog l W)
    (hf : l.filter (fun x => x.1 == "internal/strconv.uint64pow10") = [("internal/strconv.uint64pow10", Lib.tabData .u64 Lib.pow10Tab)]) : Pow W.heap.size W := by
  rw [hh] at h
  have h2 := laidMet.filter (fun x => x.1 == "internal/strconv.uint64pow10") h
  rw [hf] at h2
  exact Lib.tabBelow_of_tabIs (Lib.tabIs_of_head (rest := []) (show Tryd.prog.globalNamed "internal/strconv.uint64pow10" = some 3 by kernel_rfl) (show (Tryd.prog.globals[3]?).map (·.type) = some 102 by kernel_rfl) Tryd.underlying102 Tryd.underlying22 cellsU64 cellsPow h2)
theorem tabs {W : World} (h : laidMetH Tryd.prog Rows.pptrMakesRow.laid W) : Pow W.heap.size W := pow_of h rfl (by rfl)
def layAt (w : World) (g : Nat) (cs : Array Value) : World :=
  { w with heap := w.heap.modify g fun
      | .cells _ t frozen => .cells cs t frozen
      | o => o }
def cellsD : DataW Unit → Array Value
  | .agg xs => (xs.map fun | .lit (.int k z) => Value.int k z | _ => .bool false).toArray
  | _ => #[]
noncomputable def laidWorld (os : Os) : World :=
  layAt (layAt (layAt (World.holding Tryd.prog os ⟨#[], #[], []⟩) 3 (cellsD Rows.laid_internal_strconv_uint64pow10)) 4 (cellsD Rows.laid_math_bits_deBruijn32tab)) 5 (cellsD Rows.laid_math_bits_deBruijn64tab)
end Go.Proofs.YtkngmanfekcjmaaDoor.Base
