/-
  DEVICE: Off, Executed, Arm, Thread, Err, ID, lineAt, History, WriteBack.
-/
import Derived.Test.YtnhddgmegnehaaaDoorDOps
set_option linter.unusedVariables false
set_option linter.unusedSimpArgs false
namespace Go.Proofs.YtnhddgmegnehaaaDoor.Dev
open Go.ChangeShapes Go.WideShapes Go.ChangeAt Go.RowKit Go.Proofs.YtnhddgmegnehaaaDoor.Mem
end Go.Proofs.YtnhddgmegnehaaaDoor.Dev
