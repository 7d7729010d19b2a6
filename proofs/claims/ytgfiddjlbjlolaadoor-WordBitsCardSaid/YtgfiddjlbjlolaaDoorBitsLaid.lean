/-
  WHAT THE ROW OF THIS SEAT LISTS: de Bruijn's table, as cells; a world that holds it, for the witness.
-/
import Derived.Test.YtgfiddjlbjlolaaDoorLaid
import Derived.Test.YtgfiddjlbjlolaaDoorSelMath
import Derived.Test.YtgfiddjlbjlolaaDoorAwake
import Derived.Test.YtgfiddjlbjlolaaDoorArgs
namespace Go.Proofs.YtgfiddjlbjlolaaDoor.Base
open Go.ChangeShapes Go.WideShapes Go.ChangeAt Go.RowKit Go.Proofs.YtgfiddjlbjlolaaDoor.SelMath Go.Proofs.YtgfiddjlbjlolaaDoor.Law Go.Proofs.YtgfiddjlbjlolaaDoor.Args
def Tab (w : World) : Prop := ∀ i, i < 64 → w.cell? ⟨0, i, none⟩ = some (.int .u8 (dbTab.getD i 0))
theorem cellsTab : Tryd.prog.cellsOf 42 = 64 := by kernel_rfl
theorem cellsU8 : Tryd.prog.cellsOf 5 = 1 := by kernel_rfl
theorem tabs {W : World} (h : laidMetH Tryd.prog [("math/bits.deBruijn64tab", Rows.laid_math_bits_deBruijn64tab)] W) : Tab W := by
  have h' : laidMet Tryd.prog [("math/bits.deBruijn64tab", Rows.laid_math_bits_deBruijn64tab)] W := h
  exact tab_in (zs := dbTab) (show Tryd.prog.globalNamed "math/bits.deBruijn64tab" = some 0 by kernel_rfl) (show (Tryd.prog.globals[0]?).map (·.type) = some 42 by kernel_rfl) Tryd.underlying42 Tryd.underlying5 cellsU8 cellsTab h' rfl
def layAt (w : World) (g : Nat) (cs : Array Value) : World :=
  { w with heap := w.heap.modify g fun
      | .cells _ t frozen => .cells cs t frozen
      | o => o }
noncomputable def laidWorld (os : Os) : World := layAt (World.holding Tryd.prog os ⟨#[], #[], []⟩) 0 (dbTab.map (Value.int .u8)).toArray
end Go.Proofs.YtgfiddjlbjlolaaDoor.Base
