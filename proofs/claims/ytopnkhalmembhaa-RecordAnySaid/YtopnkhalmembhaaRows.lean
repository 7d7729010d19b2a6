/-
  No cell of these rows narrows 'for every input' (looked for: loops, veiled, ifaces, maps, wideKeys, modest, calm, conditions, laid).
  DERIVED. THE GIVEN ROWS OF THIS SEAT. 9 by the template 'for every input the law returns true; each argument reads behind the call as it read before'; 0 by the template 'total and deterministic' (their statements: YtopnkhalmembhaaTotals.lean).
  GIVEN WITH THE SEED: the statements are not yours to turn. If you find one false, say at which input.
  Laid BY PROGRAM, IN A SANDBOX (cutbox-rows.mjs): the forced cells as the released guide's own fill.sh prints them over the translation d99a49a89e7391eb… (all of the seat's roots in one cut). By AI agents, Wed Nov 11 2026. No macro, syntax, notation, axiom, sorry.
-/
import Derived.Test.YtopnkhalmembhaaChecked
import GoSem.Claim
import GoSem.ClaimJoined
import GoSem.ClaimMapViews
import Derived.JoinedTies
import Derived.KernelRfl
namespace Go.Proofs.Ytopnkhalmembhaa
/- THE CELL 'sum', in the pinned program and in every row, IS THE sha256 OF THE DUMP (.gsa) THAT YtopnkhalmembhaaProg.lean LOADS. Nothing in Lean hashes anything: it is a label: what it is worth is what the hold of that sum in a sandbox is worth. -/
noncomputable def Try.pinned : Pinned := { name := "ytopnkhalmembhaa", sum := "d99a49a89e7391ebd20c041029a1d285c6762e36f867f856ebd54dcd4ff0ae70", checked := Try.checked }
namespace Rows
def none {H : Type} : Left H := { results := [], args := [] }

/-- 'bedrocklaw11.RecordNumbers': WHATEVER THE INPUT: true; the input reads as it did. -/
def recordNumbersSpec : ChangeSpec := { name := "recordNumbers", fn := fun _ => fun
  | [d1, d2, d3] => { results := [.lit (.bool true)], args := [d1, d2, d3] }
  | _ => none }
def recordNumbersRow : OpenClaim := { program := "ytopnkhalmembhaa", sum := "d99a49a89e7391ebd20c041029a1d285c6762e36f867f856ebd54dcd4ff0ae70", func := "bedrock/bedrocklaw11.RecordNumbers", spec := "recordNumbers", unfollowed := true, recurses := true, apart := false }
def RecordNumbersSaid : Prop := recordNumbersRow.holds Try.pinned (OpenSpec.ofChange recordNumbersSpec)

/-- ITS FALSE NEIGHBOUR: 'it returns false'. Refute it at one input. -/
def recordNumbersWrong : ChangeSpec := { name := "recordNumbers", fn := fun _ => fun
  | [d1, d2, d3] => { results := [.lit (.bool false)], args := [d1, d2, d3] }
  | _ => none }
def RecordNumbersWrongFalsely : Prop := recordNumbersRow.holds Try.pinned (OpenSpec.ofChange recordNumbersWrong)

/-- 'bedrocklaw11.RecordNames': WHATEVER THE INPUT: true; the input reads as it did. -/
def recordNamesSpec : ChangeSpec := { name := "recordNames", fn := fun _ => fun
  | [d1, d2] => { results := [.lit (.bool true)], args := [d1, d2] }
  | _ => none }
def recordNamesRow : OpenClaim := { program := "ytopnkhalmembhaa", sum := "d99a49a89e7391ebd20c041029a1d285c6762e36f867f856ebd54dcd4ff0ae70", func := "bedrock/bedrocklaw11.RecordNames", spec := "recordNames", unfollowed := true, recurses := true, apart := false }
def RecordNamesSaid : Prop := recordNamesRow.holds Try.pinned (OpenSpec.ofChange recordNamesSpec)

/-- ITS FALSE NEIGHBOUR: 'it returns false'. Refute it at one input. -/
def recordNamesWrong : ChangeSpec := { name := "recordNames", fn := fun _ => fun
  | [d1, d2] => { results := [.lit (.bool false)], args := [d1, d2] }
  | _ => none }
def RecordNamesWrongFalsely : Prop := recordNamesRow.holds Try.pinned (OpenSpec.ofChange recordNamesWrong)

/-- 'bedrocklaw11.RecordArrays': WHATEVER THE INPUT: true; the input reads as it did. -/
def recordArraysSpec : ChangeSpec := { name := "recordArrays", fn := fun _ => fun
  | [d1, d2, d3] => { results := [.lit (.bool true)], args := [d1, d2, d3] }
  | _ => none }
def recordArraysRow : OpenClaim := { program := "ytopnkhalmembhaa", sum := "d99a49a89e7391ebd20c041029a1d285c6762e36f867f856ebd54dcd4ff0ae70", func := "bedrock/bedrocklaw11.RecordArrays", spec := "recordArrays", unfollowed := true, recurses := true, apart := false }
def RecordArraysSaid : Prop := recordArraysRow.holds Try.pinned (OpenSpec.ofChange recordArraysSpec)

/-- ITS FALSE NEIGHBOUR: 'it returns false'. Refute it at one input. -/
def recordArraysWrong : ChangeSpec := { name := "recordArrays", fn := fun _ => fun
  | [d1, d2, d3] => { results := [.lit (.bool false)], args := [d1, d2, d3] }
  | _ => none }
def RecordArraysWrongFalsely : Prop := recordArraysRow.holds Try.pinned (OpenSpec.ofChange recordArraysWrong)

/-- 'bedrocklaw11.RecordComposes': WHATEVER THE INPUT: true; the input reads as it did. -/
def recordComposesSpec : ChangeSpec := { name := "recordComposes", fn := fun _ => fun
  | [d1, d2] => { results := [.lit (.bool true)], args := [d1, d2] }
  | _ => none }
def recordComposesRow : OpenClaim := { program := "ytopnkhalmembhaa", sum := "d99a49a89e7391ebd20c041029a1d285c6762e36f867f856ebd54dcd4ff0ae70", func := "bedrock/bedrocklaw11.RecordComposes", spec := "recordComposes", unfollowed := true, recurses := true, apart := false }
def RecordComposesSaid : Prop := recordComposesRow.holds Try.pinned (OpenSpec.ofChange recordComposesSpec)

/-- ITS FALSE NEIGHBOUR: 'it returns false'. Refute it at one input. -/
def recordComposesWrong : ChangeSpec := { name := "recordComposes", fn := fun _ => fun
  | [d1, d2] => { results := [.lit (.bool false)], args := [d1, d2] }
  | _ => none }
def RecordComposesWrongFalsely : Prop := recordComposesRow.holds Try.pinned (OpenSpec.ofChange recordComposesWrong)

/-- 'bedrocklaw11.RecordOneWay': WHATEVER THE INPUT: true; the input reads as it did. -/
def recordOneWaySpec : ChangeSpec := { name := "recordOneWay", fn := fun _ => fun
  | [d1, d2, d3] => { results := [.lit (.bool true)], args := [d1, d2, d3] }
  | _ => none }
def recordOneWayRow : OpenClaim := { program := "ytopnkhalmembhaa", sum := "d99a49a89e7391ebd20c041029a1d285c6762e36f867f856ebd54dcd4ff0ae70", func := "bedrock/bedrocklaw11.RecordOneWay", spec := "recordOneWay", unfollowed := true, recurses := true, apart := false }
def RecordOneWaySaid : Prop := recordOneWayRow.holds Try.pinned (OpenSpec.ofChange recordOneWaySpec)

/-- ITS FALSE NEIGHBOUR: 'it returns false'. Refute it at one input. -/
def recordOneWayWrong : ChangeSpec := { name := "recordOneWay", fn := fun _ => fun
  | [d1, d2, d3] => { results := [.lit (.bool false)], args := [d1, d2, d3] }
  | _ => none }
def RecordOneWayWrongFalsely : Prop := recordOneWayRow.holds Try.pinned (OpenSpec.ofChange recordOneWayWrong)

/-- 'bedrocklaw11.RecordAny': WHATEVER THE INPUT: true; the input reads as it did. -/
def recordAnySpec : ChangeSpec := { name := "recordAny", fn := fun _ => fun
  | [d1, d2, d3] => { results := [.lit (.bool true)], args := [d1, d2, d3] }
  | _ => none }
def recordAnyRow : OpenClaim := { program := "ytopnkhalmembhaa", sum := "d99a49a89e7391ebd20c041029a1d285c6762e36f867f856ebd54dcd4ff0ae70", func := "bedrock/bedrocklaw11.RecordAny", spec := "recordAny", unfollowed := true, recurses := true, apart := false }
def RecordAnySaid : Prop := recordAnyRow.holds Try.pinned (OpenSpec.ofChange recordAnySpec)

/-- ITS FALSE NEIGHBOUR: 'it returns false'. Refute it at one input. -/
def recordAnyWrong : ChangeSpec := { name := "recordAny", fn := fun _ => fun
  | [d1, d2, d3] => { results := [.lit (.bool false)], args := [d1, d2, d3] }
  | _ => none }
def RecordAnyWrongFalsely : Prop := recordAnyRow.holds Try.pinned (OpenSpec.ofChange recordAnyWrong)

/-- 'bedrocklaw11.RecordNil': WHATEVER THE INPUT: true; the input reads as it did. -/
def recordNilSpec : ChangeSpec := { name := "recordNil", fn := fun _ => fun
  | [d1, d2] => { results := [.lit (.bool true)], args := [d1, d2] }
  | _ => none }
def recordNilRow : OpenClaim := { program := "ytopnkhalmembhaa", sum := "d99a49a89e7391ebd20c041029a1d285c6762e36f867f856ebd54dcd4ff0ae70", func := "bedrock/bedrocklaw11.RecordNil", spec := "recordNil", unfollowed := true, recurses := true, apart := false }
def RecordNilSaid : Prop := recordNilRow.holds Try.pinned (OpenSpec.ofChange recordNilSpec)

/-- ITS FALSE NEIGHBOUR: 'it returns false'. Refute it at one input. -/
def recordNilWrong : ChangeSpec := { name := "recordNil", fn := fun _ => fun
  | [d1, d2] => { results := [.lit (.bool false)], args := [d1, d2] }
  | _ => none }
def RecordNilWrongFalsely : Prop := recordNilRow.holds Try.pinned (OpenSpec.ofChange recordNilWrong)

/-- 'bedrocklaw11.RecordReads': WHATEVER THE INPUT: true; the input reads as it did. -/
def recordReadsSpec : ChangeSpec := { name := "recordReads", fn := fun _ => fun
  | [d1, d2, d3] => { results := [.lit (.bool true)], args := [d1, d2, d3] }
  | _ => none }
def recordReadsRow : OpenClaim := { program := "ytopnkhalmembhaa", sum := "d99a49a89e7391ebd20c041029a1d285c6762e36f867f856ebd54dcd4ff0ae70", func := "bedrock/bedrocklaw11.RecordReads", spec := "recordReads", unfollowed := true, recurses := true, apart := false }
def RecordReadsSaid : Prop := recordReadsRow.holds Try.pinned (OpenSpec.ofChange recordReadsSpec)

/-- ITS FALSE NEIGHBOUR: 'it returns false'. Refute it at one input. -/
def recordReadsWrong : ChangeSpec := { name := "recordReads", fn := fun _ => fun
  | [d1, d2, d3] => { results := [.lit (.bool false)], args := [d1, d2, d3] }
  | _ => none }
def RecordReadsWrongFalsely : Prop := recordReadsRow.holds Try.pinned (OpenSpec.ofChange recordReadsWrong)

/-- 'bedrocklaw11.RecordPlans': WHATEVER THE INPUT: true; the input reads as it did. -/
def recordPlansSpec : ChangeSpec := { name := "recordPlans", fn := fun _ => fun
  | [d1, d2] => { results := [.lit (.bool true)], args := [d1, d2] }
  | _ => none }
def recordPlansRow : OpenClaim := { program := "ytopnkhalmembhaa", sum := "d99a49a89e7391ebd20c041029a1d285c6762e36f867f856ebd54dcd4ff0ae70", func := "bedrock/bedrocklaw11.RecordPlans", spec := "recordPlans", unfollowed := true, recurses := true, apart := false }
def RecordPlansSaid : Prop := recordPlansRow.holds Try.pinned (OpenSpec.ofChange recordPlansSpec)

/-- ITS FALSE NEIGHBOUR: 'it returns false'. Refute it at one input. -/
def recordPlansWrong : ChangeSpec := { name := "recordPlans", fn := fun _ => fun
  | [d1, d2] => { results := [.lit (.bool false)], args := [d1, d2] }
  | _ => none }
def RecordPlansWrongFalsely : Prop := recordPlansRow.holds Try.pinned (OpenSpec.ofChange recordPlansWrong)

/- THE SECOND FORM. 'bulk': how many values and letters a reading holds, each counted each time it is reached (what is shared counts as often as it is met; a slice's spare places count too). A statement '..UptoSaid' is the law's where the arguments, and the package variables that the reading takes, are together of bulk at most 1048576: NARROWER than '..Said'. Prove '..Said' where nothing that the law and all that it calls make is longer than what came in: it says more and counts as full. Else prove '..UptoSaid'. A law counts once. -/
mutual
def uptoBulk {H : Type} : DataW H → Nat
  | .lit (.string bytes) => bytes.length + 1
  | .lit _ => 1
  | .nil => 1
  | .ptr d => uptoBulk d + 1
  | .slice elems spare => uptoBulkAll elems + uptoBulkAll spare + 1
  | .agg parts => uptoBulkAll parts + 1
  | .iface _ d => uptoBulk d + 1
  | .map entries => uptoBulkEntries entries + 1
  | .held _ => 1
def uptoBulkAll {H : Type} : List (DataW H) → Nat
  | [] => 0
  | d :: r => uptoBulk d + uptoBulkAll r
def uptoBulkEntries {H : Type} : List (Lit × DataW H) → Nat
  | [] => 0
  | x :: r => uptoBulkEntry x + uptoBulkEntries r
def uptoBulkEntry {H : Type} : Lit × DataW H → Nat
  | (.string bytes, d) => bytes.length + uptoBulk d + 1
  | (_, d) => uptoBulk d + 1
 end
def uptoSmall : (H : Type) → List (DataW H) → Bool := fun _ ds => decide (uptoBulkAll ds ≤ 1048576)
def OpenSpec.upto (s : _root_.Go.ChangeSpec) : _root_.Go.OpenSpec := { _root_.Go.OpenSpec.ofChange s with cond := some uptoSmall }

/-- 'bedrocklaw11.RecordNumbers', WHERE WHAT IT READS IS OF BULK AT MOST 1048576: true; the input reads as it did. -/
def recordNumbersUptoRow : OpenClaim := { program := "ytopnkhalmembhaa", sum := "d99a49a89e7391ebd20c041029a1d285c6762e36f867f856ebd54dcd4ff0ae70", func := "bedrock/bedrocklaw11.RecordNumbers", spec := "recordNumbers", unfollowed := true, recurses := true, apart := false, narrowed := true }
def RecordNumbersUptoSaid : Prop := recordNumbersUptoRow.holds Try.pinned (OpenSpec.upto recordNumbersSpec)

/-- 'bedrocklaw11.RecordNames', WHERE WHAT IT READS IS OF BULK AT MOST 1048576: true; the input reads as it did. -/
def recordNamesUptoRow : OpenClaim := { program := "ytopnkhalmembhaa", sum := "d99a49a89e7391ebd20c041029a1d285c6762e36f867f856ebd54dcd4ff0ae70", func := "bedrock/bedrocklaw11.RecordNames", spec := "recordNames", unfollowed := true, recurses := true, apart := false, narrowed := true }
def RecordNamesUptoSaid : Prop := recordNamesUptoRow.holds Try.pinned (OpenSpec.upto recordNamesSpec)

/-- 'bedrocklaw11.RecordArrays', WHERE WHAT IT READS IS OF BULK AT MOST 1048576: true; the input reads as it did. -/
def recordArraysUptoRow : OpenClaim := { program := "ytopnkhalmembhaa", sum := "d99a49a89e7391ebd20c041029a1d285c6762e36f867f856ebd54dcd4ff0ae70", func := "bedrock/bedrocklaw11.RecordArrays", spec := "recordArrays", unfollowed := true, recurses := true, apart := false, narrowed := true }
def RecordArraysUptoSaid : Prop := recordArraysUptoRow.holds Try.pinned (OpenSpec.upto recordArraysSpec)

/-- 'bedrocklaw11.RecordComposes', WHERE WHAT IT READS IS OF BULK AT MOST 1048576: true; the input reads as it did. -/
def recordComposesUptoRow : OpenClaim := { program := "ytopnkhalmembhaa", sum := "d99a49a89e7391ebd20c041029a1d285c6762e36f867f856ebd54dcd4ff0ae70", func := "bedrock/bedrocklaw11.RecordComposes", spec := "recordComposes", unfollowed := true, recurses := true, apart := false, narrowed := true }
def RecordComposesUptoSaid : Prop := recordComposesUptoRow.holds Try.pinned (OpenSpec.upto recordComposesSpec)

/-- 'bedrocklaw11.RecordOneWay', WHERE WHAT IT READS IS OF BULK AT MOST 1048576: true; the input reads as it did. -/
def recordOneWayUptoRow : OpenClaim := { program := "ytopnkhalmembhaa", sum := "d99a49a89e7391ebd20c041029a1d285c6762e36f867f856ebd54dcd4ff0ae70", func := "bedrock/bedrocklaw11.RecordOneWay", spec := "recordOneWay", unfollowed := true, recurses := true, apart := false, narrowed := true }
def RecordOneWayUptoSaid : Prop := recordOneWayUptoRow.holds Try.pinned (OpenSpec.upto recordOneWaySpec)

/-- 'bedrocklaw11.RecordAny', WHERE WHAT IT READS IS OF BULK AT MOST 1048576: true; the input reads as it did. -/
def recordAnyUptoRow : OpenClaim := { program := "ytopnkhalmembhaa", sum := "d99a49a89e7391ebd20c041029a1d285c6762e36f867f856ebd54dcd4ff0ae70", func := "bedrock/bedrocklaw11.RecordAny", spec := "recordAny", unfollowed := true, recurses := true, apart := false, narrowed := true }
def RecordAnyUptoSaid : Prop := recordAnyUptoRow.holds Try.pinned (OpenSpec.upto recordAnySpec)

/-- 'bedrocklaw11.RecordNil', WHERE WHAT IT READS IS OF BULK AT MOST 1048576: true; the input reads as it did. -/
def recordNilUptoRow : OpenClaim := { program := "ytopnkhalmembhaa", sum := "d99a49a89e7391ebd20c041029a1d285c6762e36f867f856ebd54dcd4ff0ae70", func := "bedrock/bedrocklaw11.RecordNil", spec := "recordNil", unfollowed := true, recurses := true, apart := false, narrowed := true }
def RecordNilUptoSaid : Prop := recordNilUptoRow.holds Try.pinned (OpenSpec.upto recordNilSpec)

/-- 'bedrocklaw11.RecordReads', WHERE WHAT IT READS IS OF BULK AT MOST 1048576: true; the input reads as it did. -/
def recordReadsUptoRow : OpenClaim := { program := "ytopnkhalmembhaa", sum := "d99a49a89e7391ebd20c041029a1d285c6762e36f867f856ebd54dcd4ff0ae70", func := "bedrock/bedrocklaw11.RecordReads", spec := "recordReads", unfollowed := true, recurses := true, apart := false, narrowed := true }
def RecordReadsUptoSaid : Prop := recordReadsUptoRow.holds Try.pinned (OpenSpec.upto recordReadsSpec)

/-- 'bedrocklaw11.RecordPlans', WHERE WHAT IT READS IS OF BULK AT MOST 1048576: true; the input reads as it did. -/
def recordPlansUptoRow : OpenClaim := { program := "ytopnkhalmembhaa", sum := "d99a49a89e7391ebd20c041029a1d285c6762e36f867f856ebd54dcd4ff0ae70", func := "bedrock/bedrocklaw11.RecordPlans", spec := "recordPlans", unfollowed := true, recurses := true, apart := false, narrowed := true }
def RecordPlansUptoSaid : Prop := recordPlansUptoRow.holds Try.pinned (OpenSpec.upto recordPlansSpec)

end Rows
end Go.Proofs.Ytopnkhalmembhaa
