/-
  WHAT THE ROWS OF THIS SEAT LIST: the two tables, as cells; and a world that holds them, for the witness.
-/
import Derived.Test.YtopnkhalmembhaaDoorLaid
import Derived.Test.YtopnkhalmembhaaDoorCrcBase
set_option linter.unusedVariables false
set_option linter.unusedSimpArgs false
namespace Go.Proofs.YtopnkhalmembhaaDoor.Base
open Go.ChangeShapes Go.WideShapes Go.ChangeAt Go.RowKit Go.Proofs.YtopnkhalmembhaaDoor.CrcMath Go.Proofs.YtopnkhalmembhaaDoor.Law Go.Proofs.YtopnkhalmembhaaDoor.Args
theorem cellsTab : Tryd.prog.cellsOf 82 = 16 := by kernel_rfl
theorem cellsU32 : Tryd.prog.cellsOf 23 = 1 := by kernel_rfl
theorem tabs {W : World} (h : laidMetH Tryd.prog [("bedrock/crc.lowNibble", Rows.laid_bedrock_crc_lowNibble), ("bedrock/crc.highNibble", Rows.laid_bedrock_crc_highNibble)] W) : Tab W := by
  have h' : laidMet Tryd.prog [("bedrock/crc.lowNibble", Rows.laid_bedrock_crc_lowNibble), ("bedrock/crc.highNibble", Rows.laid_bedrock_crc_highNibble)] W := h
  have c0 := tab_in (zs := lowL) (show Tryd.prog.globalNamed "bedrock/crc.lowNibble" = some 0 by kernel_rfl) (show (Tryd.prog.globals[0]?).map (·.type) = some 82 by kernel_rfl) Tryd.underlying82 Tryd.underlying23 cellsU32 cellsTab h' rfl
  have c1 := tab_in (zs := highL) (show Tryd.prog.globalNamed "bedrock/crc.highNibble" = some 1 by kernel_rfl) (show (Tryd.prog.globals[1]?).map (·.type) = some 82 by kernel_rfl) Tryd.underlying82 Tryd.underlying23 cellsU32 cellsTab h' rfl
  exact fun i hi => ⟨c0 i hi, c1 i hi⟩
def layAt (w : World) (g : Nat) (cs : Array Value) : World :=
  { w with heap := w.heap.modify g fun
      | .cells _ t frozen => .cells cs t frozen
      | o => o }
noncomputable def laidWorld (os : Os) : World :=
  layAt (layAt (World.holding Tryd.prog os ⟨#[], #[], []⟩) 0 (lowL.map (Value.int .u32)).toArray) 1 (highL.map (Value.int .u32)).toArray
end Go.Proofs.YtopnkhalmembhaaDoor.Base
