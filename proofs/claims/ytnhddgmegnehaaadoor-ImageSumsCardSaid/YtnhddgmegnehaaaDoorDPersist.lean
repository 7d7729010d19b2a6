/-
  DEVICE, A LINE IN THE LINES' BLOCK: (*line).persist, persistTo.
-/
import Derived.Test.YtnhddgmegnehaaaDoorDAfter
set_option linter.unusedVariables false
set_option linter.unusedSimpArgs false
namespace Go.Proofs.YtnhddgmegnehaaaDoor.Dev
open Go.ChangeShapes Go.WideShapes Go.ChangeAt Go.RowKit Go.Proofs.YtnhddgmegnehaaaDoor.Mem
theorem Hist.setOther {w : World} {base : Nat} {v : Value} {hs : List (Nat × Nat)} (h : Hist w base v hs) {a : Addr} (hne : v.ownBlock ≠ some a.block) (u : Value) : Hist (w.setCell a u) base v hs :=
  h.of_block fun g hg => heap_setCell_other w a g u (fun e => hne (by rw [hg, e]))
theorem Hist.below {w w' : World} {base B : Nat} {v : Value} {hs : List (Nat × Nat)} (h : Hist w base v hs) (hb : Below B w w') (hB : w.heap.size ≤ B) : Hist w' base v hs :=
  h.of_block fun g hg => hb.block g (Nat.lt_of_lt_of_le (h.lt g hg).2 hB)
end Go.Proofs.YtnhddgmegnehaaaDoor.Dev
