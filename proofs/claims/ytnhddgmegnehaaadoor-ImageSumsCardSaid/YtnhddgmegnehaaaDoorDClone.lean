/-
  DEVICE: slices.Clone and slices.Delete(s, 0, k) at a history that the device owns.
-/
import Derived.Test.YtnhddgmegnehaaaDoorDHist
set_option linter.unusedVariables false
set_option linter.unusedSimpArgs false
namespace Go.Proofs.YtnhddgmegnehaaaDoor.Dev
open Go.ChangeShapes Go.WideShapes Go.ChangeAt Go.RowKit Go.Proofs.YtnhddgmegnehaaaDoor.Mem
end Go.Proofs.YtnhddgmegnehaaaDoor.Dev
