/-
  WHAT THE ROWS OF PptrTexts AND PptrParses LIST, as the walks ask for it.
-/
import Derived.Test.YtkngmanfekcjmaaDoorPLaid
import Derived.Test.YtkngmanfekcjmaaDoorShaped
import Derived.Test.YtkngmanfekcjmaaDoorPRpar
import Derived.Stop.LaidErr
import Derived.ChangeMaps5
import Derived.Test.YtkngmanfekcjmaaDoorArgs
set_option linter.unusedVariables false
set_option linter.unusedSimpArgs false
namespace Go.Proofs.YtkngmanfekcjmaaDoor.Base
open Go.ChangeShapes Go.WideShapes Go.ChangeAt Go.RowKit Go.Proofs.YtkngmanfekcjmaaDoor.Law
theorem star : "*" ++ "errors.errorString" = "*errors.errorString" := by decide
theorem starRow (u : TypeId) (h : Tryd.prog.typeName? 3 u = some "*errors.errorString") : u = 110 :=
  typeName_ptr_named (nm := "errors.errorString") (by rw [star]; kernel_rfl) (by kernel_rfl) (by decide) u (by rw [star]; exact h)
theorem cellsErr : Tryd.prog.cellsOf 112 = 1 := by kernel_rfl
theorem cellsStr : Tryd.prog.cellsOf 9 = 1 := by kernel_rfl
theorem envs {W : World} (h : laidMetH Tryd.prog Rows.pptrParsesRow.laid W) (hS : W.ShapedOpen Tryd.prog) : Env W.heap.size W := by
  have h' : laidMet Tryd.prog Rows.pptrParsesRow.laid W := h
  have hS0 : laidMet Tryd.prog [("strconv.ErrSyntax", Rows.laid_strconv_ErrSyntax)] W := laidMet.filter (fun x => x.1 == "strconv.ErrSyntax") h'
  have hR0 : laidMet Tryd.prog [("strconv.ErrRange", Rows.laid_strconv_ErrRange)] W := laidMet.filter (fun x => x.1 == "strconv.ErrRange") h'
  have gS : Tryd.prog.globalNamed "strconv.ErrSyntax" = some 1 := by kernel_rfl
  have gR : Tryd.prog.globalNamed "strconv.ErrRange" = some 2 := by kernel_rfl
  obtain ⟨a0, s0, hv0, -, -, -⟩ := laid_sentinel hS0 gS (show (Tryd.prog.globals[1]?).map (·.type) = some 59 by kernel_rfl) Tryd.underlying59 starRow Tryd.underlying110 Tryd.underlying112 rfl rfl Tryd.underlying9 cellsErr cellsStr
  obtain ⟨a1, s1, hv1, -, -, -⟩ := laid_sentinel hR0 gR (show (Tryd.prog.globals[2]?).map (·.type) = some 59 by kernel_rfl) Tryd.underlying59 starRow Tryd.underlying110 Tryd.underlying112 rfl rfl Tryd.underlying9 cellsErr cellsStr
  have c0 : W.cell? ⟨1, 0, none⟩ = some (.iface 110 (.pointer (some a0))) := by have h0 := World.var?_cell gS hv0 0; simpa using h0
  have c1 : W.cell? ⟨2, 0, none⟩ = some (.iface 110 (.pointer (some a1))) := by have h0 := World.var?_cell gR hv1 0; simpa using h0
  have hlt : _ < _ := Go.Proofs.YtkngmanfekcjmaaDoor.Args.cell_lt c1
  exact ⟨pow_of h rfl (by rfl), hlt, Tryd.laysM145.s1_3 W hS, ⟨_, c0, .inr ⟨_, _, rfl⟩⟩, ⟨_, c1, .inr ⟨_, _, rfl⟩⟩⟩
noncomputable def laidWorldE (os : Os) : World := World.laidAll Tryd.prog os Rows.pptrParsesRow.laid
end Go.Proofs.YtkngmanfekcjmaaDoor.Base
