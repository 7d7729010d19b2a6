/-
  NARROWER THAN 'FOR EVERY INPUT', by the rows' own cells (each row's printed sentence says how): CrcSums: laid · CrcUpdates: laid · CrcSplits: laid · CrcWords: laid · CrcCombines: laid · CrcJoins: laid · CrcBursts: laid · CrcDetects: laid · CrcLinear: laid · CrcResidue: laid.
  DERIVED. THE GIVEN ROWS OF THIS SEAT. 10 by the template 'for every input the law returns true; each argument reads behind the call as it read before'; 0 by the template 'total and deterministic' (their statements: YtehojhgpgliemaaDoorTotals.lean).
  GIVEN WITH THE SEED: the statements are not yours to turn. If you find one false, say at which input.
  Laid BY PROGRAM, IN A SANDBOX (cutbox-rows.mjs): the forced cells as the released guide's own fill.sh prints them over the translation bbf345f3b236f0b9… (all of the seat's roots in one cut). By AI agents, Wed Nov 11 2026. No macro, syntax, notation, axiom, sorry.
-/
import Derived.Test.YtehojhgpgliemaaDoorChecked
import GoSem.Claim
import GoSem.ClaimJoined
import GoSem.ClaimMapViews
import Derived.JoinedTies
import Derived.KernelRfl
namespace Go.Proofs.YtehojhgpgliemaaDoor
/- THE CELL 'sum', in the pinned program and in every row, IS THE sha256 OF THE DUMP (.gsa) THAT YtehojhgpgliemaaDoorProg.lean LOADS. Nothing in Lean hashes anything: it is a label: what it is worth is what the hold of that sum in a sandbox is worth. -/
noncomputable def Tryd.pinned : Pinned := { name := "ytehojhgpgliemaadoor", sum := "bbf345f3b236f0b97dc4f4cefa4d9fe540b53725791a0764f50da017c64f9584", checked := Tryd.checked }
namespace Rows
def none {H : Type} : Left H := { results := [], args := [] }

/- WHAT THE LISTED PACKAGE-LEVEL VARIABLES READ AS WHEN THE CALL BEGINS. Each datum BY PROGRAM (the guide's laid-datum.mjs) off the statement by which the dump's own 'gosem.cut.vars' lays the variable. In a bare row this is a premise. The card (YtehojhgpgliemaaDoorCards.lean) ties it to the program's text. -/
def laid_bedrock_crc_lowNibble {H : Type} : DataW H := .agg [.lit (.int .u32 0), .lit (.int .u32 4067132163), .lit (.int .u32 3778769143), .lit (.int .u32 324072436), .lit (.int .u32 3348797215), .lit (.int .u32 904991772), .lit (.int .u32 648144872), .lit (.int .u32 3570033899), .lit (.int .u32 2329499855), .lit (.int .u32 2024987596), .lit (.int .u32 1809983544), .lit (.int .u32 2575936315), .lit (.int .u32 1296289744), .lit (.int .u32 3207089363), .lit (.int .u32 2893594407), .lit (.int .u32 1578318884)]
def laid_bedrock_crc_highNibble {H : Type} : DataW H := .agg [.lit (.int .u32 0), .lit (.int .u32 274646895), .lit (.int .u32 549293790), .lit (.int .u32 820201905), .lit (.int .u32 1098587580), .lit (.int .u32 1361435347), .lit (.int .u32 1640403810), .lit (.int .u32 1905808397), .lit (.int .u32 2197175160), .lit (.int .u32 2460548119), .lit (.int .u32 2722870694), .lit (.int .u32 2987750089), .lit (.int .u32 3280807620), .lit (.int .u32 3553878443), .lit (.int .u32 3811616794), .lit (.int .u32 4084100981)]

/-- 'bedrocklaw02.CrcSums': WHATEVER THE INPUT: true; the input reads as it did. -/
def crcSumsSpec : ChangeSpec := { name := "crcSums", fn := fun _ => fun
  | [d] => { results := [.lit (.bool true)], args := [d] }
  | _ => none }
def crcSumsRow : OpenClaim := { program := "ytehojhgpgliemaadoor", sum := "bbf345f3b236f0b97dc4f4cefa4d9fe540b53725791a0764f50da017c64f9584", func := "bedrock/bedrocklaw02.CrcSums", spec := "crcSums", named := ["bedrock/crc.lowNibble", "bedrock/crc.highNibble"], apart := false, laid := [("bedrock/crc.lowNibble", laid_bedrock_crc_lowNibble), ("bedrock/crc.highNibble", laid_bedrock_crc_highNibble)] }
def CrcSumsSaid : Prop := crcSumsRow.holds Tryd.pinned (OpenSpec.ofChange crcSumsSpec)

/-- ITS FALSE NEIGHBOUR: 'it returns false'. Refute it at one input. -/
def crcSumsWrong : ChangeSpec := { name := "crcSums", fn := fun _ => fun
  | [d] => { results := [.lit (.bool false)], args := [d] }
  | _ => none }
def CrcSumsWrongFalsely : Prop := crcSumsRow.holds Tryd.pinned (OpenSpec.ofChange crcSumsWrong)

/-- 'bedrocklaw02.CrcUpdates': WHATEVER THE INPUT: true; the input reads as it did. -/
def crcUpdatesSpec : ChangeSpec := { name := "crcUpdates", fn := fun _ => fun
  | [d1, d2] => { results := [.lit (.bool true)], args := [d1, d2] }
  | _ => none }
def crcUpdatesRow : OpenClaim := { program := "ytehojhgpgliemaadoor", sum := "bbf345f3b236f0b97dc4f4cefa4d9fe540b53725791a0764f50da017c64f9584", func := "bedrock/bedrocklaw02.CrcUpdates", spec := "crcUpdates", named := ["bedrock/crc.lowNibble", "bedrock/crc.highNibble"], apart := false, laid := [("bedrock/crc.lowNibble", laid_bedrock_crc_lowNibble), ("bedrock/crc.highNibble", laid_bedrock_crc_highNibble)] }
def CrcUpdatesSaid : Prop := crcUpdatesRow.holds Tryd.pinned (OpenSpec.ofChange crcUpdatesSpec)

/-- ITS FALSE NEIGHBOUR: 'it returns false'. Refute it at one input. -/
def crcUpdatesWrong : ChangeSpec := { name := "crcUpdates", fn := fun _ => fun
  | [d1, d2] => { results := [.lit (.bool false)], args := [d1, d2] }
  | _ => none }
def CrcUpdatesWrongFalsely : Prop := crcUpdatesRow.holds Tryd.pinned (OpenSpec.ofChange crcUpdatesWrong)

/-- 'bedrocklaw02.CrcSplits': WHATEVER THE INPUT: true; the input reads as it did. -/
def crcSplitsSpec : ChangeSpec := { name := "crcSplits", fn := fun _ => fun
  | [d1, d2] => { results := [.lit (.bool true)], args := [d1, d2] }
  | _ => none }
def crcSplitsRow : OpenClaim := { program := "ytehojhgpgliemaadoor", sum := "bbf345f3b236f0b97dc4f4cefa4d9fe540b53725791a0764f50da017c64f9584", func := "bedrock/bedrocklaw02.CrcSplits", spec := "crcSplits", named := ["bedrock/crc.lowNibble", "bedrock/crc.highNibble"], apart := false, laid := [("bedrock/crc.lowNibble", laid_bedrock_crc_lowNibble), ("bedrock/crc.highNibble", laid_bedrock_crc_highNibble)] }
def CrcSplitsSaid : Prop := crcSplitsRow.holds Tryd.pinned (OpenSpec.ofChange crcSplitsSpec)

/-- ITS FALSE NEIGHBOUR: 'it returns false'. Refute it at one input. -/
def crcSplitsWrong : ChangeSpec := { name := "crcSplits", fn := fun _ => fun
  | [d1, d2] => { results := [.lit (.bool false)], args := [d1, d2] }
  | _ => none }
def CrcSplitsWrongFalsely : Prop := crcSplitsRow.holds Tryd.pinned (OpenSpec.ofChange crcSplitsWrong)

/-- 'bedrocklaw02.CrcWords': WHATEVER THE INPUT: true; the input reads as it did. -/
def crcWordsSpec : ChangeSpec := { name := "crcWords", fn := fun _ => fun
  | [d] => { results := [.lit (.bool true)], args := [d] }
  | _ => none }
def crcWordsRow : OpenClaim := { program := "ytehojhgpgliemaadoor", sum := "bbf345f3b236f0b97dc4f4cefa4d9fe540b53725791a0764f50da017c64f9584", func := "bedrock/bedrocklaw02.CrcWords", spec := "crcWords", named := ["bedrock/crc.lowNibble", "bedrock/crc.highNibble"], apart := false, laid := [("bedrock/crc.lowNibble", laid_bedrock_crc_lowNibble), ("bedrock/crc.highNibble", laid_bedrock_crc_highNibble)] }
def CrcWordsSaid : Prop := crcWordsRow.holds Tryd.pinned (OpenSpec.ofChange crcWordsSpec)

/-- ITS FALSE NEIGHBOUR: 'it returns false'. Refute it at one input. -/
def crcWordsWrong : ChangeSpec := { name := "crcWords", fn := fun _ => fun
  | [d] => { results := [.lit (.bool false)], args := [d] }
  | _ => none }
def CrcWordsWrongFalsely : Prop := crcWordsRow.holds Tryd.pinned (OpenSpec.ofChange crcWordsWrong)

/-- 'bedrocklaw02.CrcCombines': WHATEVER THE INPUT: true; the input reads as it did. -/
def crcCombinesSpec : ChangeSpec := { name := "crcCombines", fn := fun _ => fun
  | [d1, d2, d3] => { results := [.lit (.bool true)], args := [d1, d2, d3] }
  | _ => none }
def crcCombinesRow : OpenClaim := { program := "ytehojhgpgliemaadoor", sum := "bbf345f3b236f0b97dc4f4cefa4d9fe540b53725791a0764f50da017c64f9584", func := "bedrock/bedrocklaw02.CrcCombines", spec := "crcCombines", named := ["bedrock/crc.lowNibble", "bedrock/crc.highNibble"], apart := false, laid := [("bedrock/crc.lowNibble", laid_bedrock_crc_lowNibble), ("bedrock/crc.highNibble", laid_bedrock_crc_highNibble)] }
def CrcCombinesSaid : Prop := crcCombinesRow.holds Tryd.pinned (OpenSpec.ofChange crcCombinesSpec)

/-- ITS FALSE NEIGHBOUR: 'it returns false'. Refute it at one input. -/
def crcCombinesWrong : ChangeSpec := { name := "crcCombines", fn := fun _ => fun
  | [d1, d2, d3] => { results := [.lit (.bool false)], args := [d1, d2, d3] }
  | _ => none }
def CrcCombinesWrongFalsely : Prop := crcCombinesRow.holds Tryd.pinned (OpenSpec.ofChange crcCombinesWrong)

/-- 'bedrocklaw02.CrcJoins': WHATEVER THE INPUT: true; the input reads as it did. -/
def crcJoinsSpec : ChangeSpec := { name := "crcJoins", fn := fun _ => fun
  | [d1, d2] => { results := [.lit (.bool true)], args := [d1, d2] }
  | _ => none }
def crcJoinsRow : OpenClaim := { program := "ytehojhgpgliemaadoor", sum := "bbf345f3b236f0b97dc4f4cefa4d9fe540b53725791a0764f50da017c64f9584", func := "bedrock/bedrocklaw02.CrcJoins", spec := "crcJoins", named := ["bedrock/crc.lowNibble", "bedrock/crc.highNibble"], apart := false, laid := [("bedrock/crc.lowNibble", laid_bedrock_crc_lowNibble), ("bedrock/crc.highNibble", laid_bedrock_crc_highNibble)] }
def CrcJoinsSaid : Prop := crcJoinsRow.holds Tryd.pinned (OpenSpec.ofChange crcJoinsSpec)

/-- ITS FALSE NEIGHBOUR: 'it returns false'. Refute it at one input. -/
def crcJoinsWrong : ChangeSpec := { name := "crcJoins", fn := fun _ => fun
  | [d1, d2] => { results := [.lit (.bool false)], args := [d1, d2] }
  | _ => none }
def CrcJoinsWrongFalsely : Prop := crcJoinsRow.holds Tryd.pinned (OpenSpec.ofChange crcJoinsWrong)

/-- 'bedrocklaw02.CrcBursts': WHATEVER THE INPUT: true; the input reads as it did. -/
def crcBurstsSpec : ChangeSpec := { name := "crcBursts", fn := fun _ => fun
  | [d1, d2, d3] => { results := [.lit (.bool true)], args := [d1, d2, d3] }
  | _ => none }
def crcBurstsRow : OpenClaim := { program := "ytehojhgpgliemaadoor", sum := "bbf345f3b236f0b97dc4f4cefa4d9fe540b53725791a0764f50da017c64f9584", func := "bedrock/bedrocklaw02.CrcBursts", spec := "crcBursts", named := ["bedrock/crc.lowNibble", "bedrock/crc.highNibble"], apart := false, laid := [("bedrock/crc.lowNibble", laid_bedrock_crc_lowNibble), ("bedrock/crc.highNibble", laid_bedrock_crc_highNibble)] }
def CrcBurstsSaid : Prop := crcBurstsRow.holds Tryd.pinned (OpenSpec.ofChange crcBurstsSpec)

/-- ITS FALSE NEIGHBOUR: 'it returns false'. Refute it at one input. -/
def crcBurstsWrong : ChangeSpec := { name := "crcBursts", fn := fun _ => fun
  | [d1, d2, d3] => { results := [.lit (.bool false)], args := [d1, d2, d3] }
  | _ => none }
def CrcBurstsWrongFalsely : Prop := crcBurstsRow.holds Tryd.pinned (OpenSpec.ofChange crcBurstsWrong)

/-- 'bedrocklaw02.CrcDetects': WHATEVER THE INPUT: true; the input reads as it did. -/
def crcDetectsSpec : ChangeSpec := { name := "crcDetects", fn := fun _ => fun
  | [d1, d2, d3] => { results := [.lit (.bool true)], args := [d1, d2, d3] }
  | _ => none }
def crcDetectsRow : OpenClaim := { program := "ytehojhgpgliemaadoor", sum := "bbf345f3b236f0b97dc4f4cefa4d9fe540b53725791a0764f50da017c64f9584", func := "bedrock/bedrocklaw02.CrcDetects", spec := "crcDetects", named := ["bedrock/crc.lowNibble", "bedrock/crc.highNibble"], apart := false, laid := [("bedrock/crc.lowNibble", laid_bedrock_crc_lowNibble), ("bedrock/crc.highNibble", laid_bedrock_crc_highNibble)] }
def CrcDetectsSaid : Prop := crcDetectsRow.holds Tryd.pinned (OpenSpec.ofChange crcDetectsSpec)

/-- ITS FALSE NEIGHBOUR: 'it returns false'. Refute it at one input. -/
def crcDetectsWrong : ChangeSpec := { name := "crcDetects", fn := fun _ => fun
  | [d1, d2, d3] => { results := [.lit (.bool false)], args := [d1, d2, d3] }
  | _ => none }
def CrcDetectsWrongFalsely : Prop := crcDetectsRow.holds Tryd.pinned (OpenSpec.ofChange crcDetectsWrong)

/-- 'bedrocklaw02.CrcLinear': WHATEVER THE INPUT: true; the input reads as it did. -/
def crcLinearSpec : ChangeSpec := { name := "crcLinear", fn := fun _ => fun
  | [d1, d2, d3] => { results := [.lit (.bool true)], args := [d1, d2, d3] }
  | _ => none }
def crcLinearRow : OpenClaim := { program := "ytehojhgpgliemaadoor", sum := "bbf345f3b236f0b97dc4f4cefa4d9fe540b53725791a0764f50da017c64f9584", func := "bedrock/bedrocklaw02.CrcLinear", spec := "crcLinear", named := ["bedrock/crc.lowNibble", "bedrock/crc.highNibble"], apart := false, laid := [("bedrock/crc.lowNibble", laid_bedrock_crc_lowNibble), ("bedrock/crc.highNibble", laid_bedrock_crc_highNibble)] }
def CrcLinearSaid : Prop := crcLinearRow.holds Tryd.pinned (OpenSpec.ofChange crcLinearSpec)

/-- ITS FALSE NEIGHBOUR: 'it returns false'. Refute it at one input. -/
def crcLinearWrong : ChangeSpec := { name := "crcLinear", fn := fun _ => fun
  | [d1, d2, d3] => { results := [.lit (.bool false)], args := [d1, d2, d3] }
  | _ => none }
def CrcLinearWrongFalsely : Prop := crcLinearRow.holds Tryd.pinned (OpenSpec.ofChange crcLinearWrong)

/-- 'bedrocklaw02.CrcResidue': WHATEVER THE INPUT: true; the input reads as it did. -/
def crcResidueSpec : ChangeSpec := { name := "crcResidue", fn := fun _ => fun
  | [d] => { results := [.lit (.bool true)], args := [d] }
  | _ => none }
def crcResidueRow : OpenClaim := { program := "ytehojhgpgliemaadoor", sum := "bbf345f3b236f0b97dc4f4cefa4d9fe540b53725791a0764f50da017c64f9584", func := "bedrock/bedrocklaw02.CrcResidue", spec := "crcResidue", named := ["bedrock/crc.lowNibble", "bedrock/crc.highNibble"], apart := false, laid := [("bedrock/crc.lowNibble", laid_bedrock_crc_lowNibble), ("bedrock/crc.highNibble", laid_bedrock_crc_highNibble)] }
def CrcResidueSaid : Prop := crcResidueRow.holds Tryd.pinned (OpenSpec.ofChange crcResidueSpec)

/-- ITS FALSE NEIGHBOUR: 'it returns false'. Refute it at one input. -/
def crcResidueWrong : ChangeSpec := { name := "crcResidue", fn := fun _ => fun
  | [d] => { results := [.lit (.bool false)], args := [d] }
  | _ => none }
def CrcResidueWrongFalsely : Prop := crcResidueRow.holds Tryd.pinned (OpenSpec.ofChange crcResidueWrong)

/- THE SECOND FORM. 'bulk': how many values and letters a reading holds, each counted each time it is reached (what is shared counts as often as it is met; a slice's spare places count too). A statement '..UptoSaid' is the law's where the arguments, and the package variables that the reading takes, are together of bulk at most 1048576: NARROWER than '..Said'. Prove '..Said' where nothing that the law and all that it calls make is longer than what came in: it says more and counts as full. Else prove '..UptoSaid'. A law counts once. -/
mutual
def uptoBulk {H : Type} : DataW H → Nat
  | .lit (.string bytes) => bytes.length + 1
  | .lit _ => 1
  | .nil => 1
  | .ptr d => uptoBulk d + 1
  | .slice elems spare => uptoBulkAll elems + uptoBulkAll spare + 1
  | .agg parts => uptoBulkAll parts + 1
  | .iface _ d => uptoBulk d + 1
  | .map entries => uptoBulkEntries entries + 1
  | .held _ => 1
def uptoBulkAll {H : Type} : List (DataW H) → Nat
  | [] => 0
  | d :: r => uptoBulk d + uptoBulkAll r
def uptoBulkEntries {H : Type} : List (Lit × DataW H) → Nat
  | [] => 0
  | x :: r => uptoBulkEntry x + uptoBulkEntries r
def uptoBulkEntry {H : Type} : Lit × DataW H → Nat
  | (.string bytes, d) => bytes.length + uptoBulk d + 1
  | (_, d) => uptoBulk d + 1
 end
def uptoSmall : (H : Type) → List (DataW H) → Bool := fun _ ds => decide (uptoBulkAll ds ≤ 1048576)
def OpenSpec.upto (s : _root_.Go.ChangeSpec) : _root_.Go.OpenSpec := { _root_.Go.OpenSpec.ofChange s with cond := some uptoSmall }

/-- 'bedrocklaw02.CrcSums', WHERE WHAT IT READS IS OF BULK AT MOST 1048576: true; the input reads as it did. -/
def crcSumsUptoRow : OpenClaim := { program := "ytehojhgpgliemaadoor", sum := "bbf345f3b236f0b97dc4f4cefa4d9fe540b53725791a0764f50da017c64f9584", func := "bedrock/bedrocklaw02.CrcSums", spec := "crcSums", named := ["bedrock/crc.lowNibble", "bedrock/crc.highNibble"], apart := false, laid := [("bedrock/crc.lowNibble", laid_bedrock_crc_lowNibble), ("bedrock/crc.highNibble", laid_bedrock_crc_highNibble)], narrowed := true }
def CrcSumsUptoSaid : Prop := crcSumsUptoRow.holds Tryd.pinned (OpenSpec.upto crcSumsSpec)

/-- 'bedrocklaw02.CrcUpdates', WHERE WHAT IT READS IS OF BULK AT MOST 1048576: true; the input reads as it did. -/
def crcUpdatesUptoRow : OpenClaim := { program := "ytehojhgpgliemaadoor", sum := "bbf345f3b236f0b97dc4f4cefa4d9fe540b53725791a0764f50da017c64f9584", func := "bedrock/bedrocklaw02.CrcUpdates", spec := "crcUpdates", named := ["bedrock/crc.lowNibble", "bedrock/crc.highNibble"], apart := false, laid := [("bedrock/crc.lowNibble", laid_bedrock_crc_lowNibble), ("bedrock/crc.highNibble", laid_bedrock_crc_highNibble)], narrowed := true }
def CrcUpdatesUptoSaid : Prop := crcUpdatesUptoRow.holds Tryd.pinned (OpenSpec.upto crcUpdatesSpec)

/-- 'bedrocklaw02.CrcSplits', WHERE WHAT IT READS IS OF BULK AT MOST 1048576: true; the input reads as it did. -/
def crcSplitsUptoRow : OpenClaim := { program := "ytehojhgpgliemaadoor", sum := "bbf345f3b236f0b97dc4f4cefa4d9fe540b53725791a0764f50da017c64f9584", func := "bedrock/bedrocklaw02.CrcSplits", spec := "crcSplits", named := ["bedrock/crc.lowNibble", "bedrock/crc.highNibble"], apart := false, laid := [("bedrock/crc.lowNibble", laid_bedrock_crc_lowNibble), ("bedrock/crc.highNibble", laid_bedrock_crc_highNibble)], narrowed := true }
def CrcSplitsUptoSaid : Prop := crcSplitsUptoRow.holds Tryd.pinned (OpenSpec.upto crcSplitsSpec)

/-- 'bedrocklaw02.CrcWords', WHERE WHAT IT READS IS OF BULK AT MOST 1048576: true; the input reads as it did. -/
def crcWordsUptoRow : OpenClaim := { program := "ytehojhgpgliemaadoor", sum := "bbf345f3b236f0b97dc4f4cefa4d9fe540b53725791a0764f50da017c64f9584", func := "bedrock/bedrocklaw02.CrcWords", spec := "crcWords", named := ["bedrock/crc.lowNibble", "bedrock/crc.highNibble"], apart := false, laid := [("bedrock/crc.lowNibble", laid_bedrock_crc_lowNibble), ("bedrock/crc.highNibble", laid_bedrock_crc_highNibble)], narrowed := true }
def CrcWordsUptoSaid : Prop := crcWordsUptoRow.holds Tryd.pinned (OpenSpec.upto crcWordsSpec)

/-- 'bedrocklaw02.CrcCombines', WHERE WHAT IT READS IS OF BULK AT MOST 1048576: true; the input reads as it did. -/
def crcCombinesUptoRow : OpenClaim := { program := "ytehojhgpgliemaadoor", sum := "bbf345f3b236f0b97dc4f4cefa4d9fe540b53725791a0764f50da017c64f9584", func := "bedrock/bedrocklaw02.CrcCombines", spec := "crcCombines", named := ["bedrock/crc.lowNibble", "bedrock/crc.highNibble"], apart := false, laid := [("bedrock/crc.lowNibble", laid_bedrock_crc_lowNibble), ("bedrock/crc.highNibble", laid_bedrock_crc_highNibble)], narrowed := true }
def CrcCombinesUptoSaid : Prop := crcCombinesUptoRow.holds Tryd.pinned (OpenSpec.upto crcCombinesSpec)

/-- 'bedrocklaw02.CrcJoins', WHERE WHAT IT READS IS OF BULK AT MOST 1048576: true; the input reads as it did. -/
def crcJoinsUptoRow : OpenClaim := { program := "ytehojhgpgliemaadoor", sum := "bbf345f3b236f0b97dc4f4cefa4d9fe540b53725791a0764f50da017c64f9584", func := "bedrock/bedrocklaw02.CrcJoins", spec := "crcJoins", named := ["bedrock/crc.lowNibble", "bedrock/crc.highNibble"], apart := false, laid := [("bedrock/crc.lowNibble", laid_bedrock_crc_lowNibble), ("bedrock/crc.highNibble", laid_bedrock_crc_highNibble)], narrowed := true }
def CrcJoinsUptoSaid : Prop := crcJoinsUptoRow.holds Tryd.pinned (OpenSpec.upto crcJoinsSpec)

/-- 'bedrocklaw02.CrcBursts', WHERE WHAT IT READS IS OF BULK AT MOST 1048576: true; the input reads as it did. -/
def crcBurstsUptoRow : OpenClaim := { program := "ytehojhgpgliemaadoor", sum := "bbf345f3b236f0b97dc4f4cefa4d9fe540b53725791a0764f50da017c64f9584", func := "bedrock/bedrocklaw02.CrcBursts", spec := "crcBursts", named := ["bedrock/crc.lowNibble", "bedrock/crc.highNibble"], apart := false, laid := [("bedrock/crc.lowNibble", laid_bedrock_crc_lowNibble), ("bedrock/crc.highNibble", laid_bedrock_crc_highNibble)], narrowed := true }
def CrcBurstsUptoSaid : Prop := crcBurstsUptoRow.holds Tryd.pinned (OpenSpec.upto crcBurstsSpec)

/-- 'bedrocklaw02.CrcDetects', WHERE WHAT IT READS IS OF BULK AT MOST 1048576: true; the input reads as it did. -/
def crcDetectsUptoRow : OpenClaim := { program := "ytehojhgpgliemaadoor", sum := "bbf345f3b236f0b97dc4f4cefa4d9fe540b53725791a0764f50da017c64f9584", func := "bedrock/bedrocklaw02.CrcDetects", spec := "crcDetects", named := ["bedrock/crc.lowNibble", "bedrock/crc.highNibble"], apart := false, laid := [("bedrock/crc.lowNibble", laid_bedrock_crc_lowNibble), ("bedrock/crc.highNibble", laid_bedrock_crc_highNibble)], narrowed := true }
def CrcDetectsUptoSaid : Prop := crcDetectsUptoRow.holds Tryd.pinned (OpenSpec.upto crcDetectsSpec)

/-- 'bedrocklaw02.CrcLinear', WHERE WHAT IT READS IS OF BULK AT MOST 1048576: true; the input reads as it did. -/
def crcLinearUptoRow : OpenClaim := { program := "ytehojhgpgliemaadoor", sum := "bbf345f3b236f0b97dc4f4cefa4d9fe540b53725791a0764f50da017c64f9584", func := "bedrock/bedrocklaw02.CrcLinear", spec := "crcLinear", named := ["bedrock/crc.lowNibble", "bedrock/crc.highNibble"], apart := false, laid := [("bedrock/crc.lowNibble", laid_bedrock_crc_lowNibble), ("bedrock/crc.highNibble", laid_bedrock_crc_highNibble)], narrowed := true }
def CrcLinearUptoSaid : Prop := crcLinearUptoRow.holds Tryd.pinned (OpenSpec.upto crcLinearSpec)

/-- 'bedrocklaw02.CrcResidue', WHERE WHAT IT READS IS OF BULK AT MOST 1048576: true; the input reads as it did. -/
def crcResidueUptoRow : OpenClaim := { program := "ytehojhgpgliemaadoor", sum := "bbf345f3b236f0b97dc4f4cefa4d9fe540b53725791a0764f50da017c64f9584", func := "bedrock/bedrocklaw02.CrcResidue", spec := "crcResidue", named := ["bedrock/crc.lowNibble", "bedrock/crc.highNibble"], apart := false, laid := [("bedrock/crc.lowNibble", laid_bedrock_crc_lowNibble), ("bedrock/crc.highNibble", laid_bedrock_crc_highNibble)], narrowed := true }
def CrcResidueUptoSaid : Prop := crcResidueUptoRow.holds Tryd.pinned (OpenSpec.upto crcResidueSpec)

end Rows
end Go.Proofs.YtehojhgpgliemaaDoor
