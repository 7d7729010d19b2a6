/-
  WHAT THE ROW OF PptrTexts LISTS, as the walk asks for it.
-/
import Derived.Test.YtkngmanfekcjmaaDoorPEnv
import Derived.Test.YtkngmanfekcjmaaDoorPRtextW
set_option linter.unusedVariables false
set_option linter.unusedSimpArgs false
namespace Go.Proofs.YtkngmanfekcjmaaDoor.Base
open Go.ChangeShapes Go.WideShapes Go.ChangeAt Go.RowKit Go.Proofs.YtkngmanfekcjmaaDoor.Law
def intsD : DataW Unit → List Int
  | .agg xs => xs.map fun | .lit (.int _ z) => z | _ => 0
  | _ => []
theorem cellsTz : Tryd.prog.cellsOf 116 = 64 := by kernel_rfl
theorem cellsU8 : Tryd.prog.cellsOf 5 = 1 := by kernel_rfl
theorem envsT {W : World} (h : laidMetH Tryd.prog Rows.pptrTextsRow.laid W) (hS : W.ShapedOpen Tryd.prog) : Env W.heap.size W ∧ Tz W.heap.size W := by
  have h' : laidMet Tryd.prog Rows.pptrTextsRow.laid W := h
  have hc := tab_in (k := .u8) (zs := intsD Rows.laid_math_bits_deBruijn64tab) (show Tryd.prog.globalNamed "math/bits.deBruijn64tab" = some 5 by kernel_rfl) (show (Tryd.prog.globals[5]?).map (·.type) = some 116 by kernel_rfl) Tryd.underlying116 Tryd.underlying5 cellsU8 cellsTz h' (by rfl) 15 (by decide)
  have e : (intsD Rows.laid_math_bits_deBruijn64tab).getD 15 0 = 4 := by rfl
  rw [e] at hc
  exact ⟨envs h hS, Go.Proofs.YtkngmanfekcjmaaDoor.Args.cell_lt hc, hc⟩
end Go.Proofs.YtkngmanfekcjmaaDoor.Base
