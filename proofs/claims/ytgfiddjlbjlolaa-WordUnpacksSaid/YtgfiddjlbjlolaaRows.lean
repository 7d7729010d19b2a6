/-
  No cell of these rows narrows 'for every input' (looked for: loops, veiled, ifaces, maps, wideKeys, modest, calm, conditions, laid).
  DERIVED. THE GIVEN ROWS OF THIS SEAT. 8 by the template 'for every input the law returns true; each argument reads behind the call as it read before'; 0 by the template 'total and deterministic' (their statements: YtgfiddjlbjlolaaTotals.lean).
  GIVEN WITH THE SEED: the statements are not yours to turn. If you find one false, say at which input.
  Laid BY PROGRAM, IN A SANDBOX (cutbox-rows.mjs): the forced cells as the released guide's own fill.sh prints them over the translation 19b4035619f43526… (all of the seat's roots in one cut). By AI agents, Wed Nov 11 2026. No macro, syntax, notation, axiom, sorry.
-/
import Derived.Test.YtgfiddjlbjlolaaChecked
import GoSem.Claim
import GoSem.ClaimJoined
import GoSem.ClaimMapViews
import Derived.JoinedTies
import Derived.KernelRfl
namespace Go.Proofs.Ytgfiddjlbjlolaa
/- THE CELL 'sum', in the pinned program and in every row, IS THE sha256 OF THE DUMP (.gsa) THAT YtgfiddjlbjlolaaProg.lean LOADS. Nothing in Lean hashes anything: it is a label: what it is worth is what the hold of that sum in a sandbox is worth. -/
noncomputable def Try.pinned : Pinned := { name := "ytgfiddjlbjlolaa", sum := "19b4035619f43526be3caf4b6be0677ee10a96cf4980828029b160f6e5bc0b43", checked := Try.checked }
namespace Rows
def none {H : Type} : Left H := { results := [], args := [] }

/-- 'bedrocklaw01.WordFields': WHATEVER THE INPUT: true; the input reads as it did. -/
def wordFieldsSpec : ChangeSpec := { name := "wordFields", fn := fun _ => fun
  | [d1, d2, d3] => { results := [.lit (.bool true)], args := [d1, d2, d3] }
  | _ => none }
def wordFieldsRow : OpenClaim := { program := "ytgfiddjlbjlolaa", sum := "19b4035619f43526be3caf4b6be0677ee10a96cf4980828029b160f6e5bc0b43", func := "bedrock/bedrocklaw01.WordFields", spec := "wordFields", inPlace := ["math/bits.Add64"], apart := false }
def WordFieldsSaid : Prop := wordFieldsRow.holds Try.pinned (OpenSpec.ofChange wordFieldsSpec)

/-- ITS FALSE NEIGHBOUR: 'it returns false'. Refute it at one input. -/
def wordFieldsWrong : ChangeSpec := { name := "wordFields", fn := fun _ => fun
  | [d1, d2, d3] => { results := [.lit (.bool false)], args := [d1, d2, d3] }
  | _ => none }
def WordFieldsWrongFalsely : Prop := wordFieldsRow.holds Try.pinned (OpenSpec.ofChange wordFieldsWrong)

/-- 'bedrocklaw01.WordFieldSet': WHATEVER THE INPUT: true; the input reads as it did. -/
def wordFieldSetSpec : ChangeSpec := { name := "wordFieldSet", fn := fun _ => fun
  | [d1, d2, d3] => { results := [.lit (.bool true)], args := [d1, d2, d3] }
  | _ => none }
def wordFieldSetRow : OpenClaim := { program := "ytgfiddjlbjlolaa", sum := "19b4035619f43526be3caf4b6be0677ee10a96cf4980828029b160f6e5bc0b43", func := "bedrock/bedrocklaw01.WordFieldSet", spec := "wordFieldSet", inPlace := ["math/bits.Add64"], apart := false }
def WordFieldSetSaid : Prop := wordFieldSetRow.holds Try.pinned (OpenSpec.ofChange wordFieldSetSpec)

/-- ITS FALSE NEIGHBOUR: 'it returns false'. Refute it at one input. -/
def wordFieldSetWrong : ChangeSpec := { name := "wordFieldSet", fn := fun _ => fun
  | [d1, d2, d3] => { results := [.lit (.bool false)], args := [d1, d2, d3] }
  | _ => none }
def WordFieldSetWrongFalsely : Prop := wordFieldSetRow.holds Try.pinned (OpenSpec.ofChange wordFieldSetWrong)

/-- 'bedrocklaw01.WordAligns': WHATEVER THE INPUT: true; the input reads as it did. -/
def wordAlignsSpec : ChangeSpec := { name := "wordAligns", fn := fun _ => fun
  | [d1, d2, d3] => { results := [.lit (.bool true)], args := [d1, d2, d3] }
  | _ => none }
def wordAlignsRow : OpenClaim := { program := "ytgfiddjlbjlolaa", sum := "19b4035619f43526be3caf4b6be0677ee10a96cf4980828029b160f6e5bc0b43", func := "bedrock/bedrocklaw01.WordAligns", spec := "wordAligns", inPlace := ["math/bits.Add64"], apart := false }
def WordAlignsSaid : Prop := wordAlignsRow.holds Try.pinned (OpenSpec.ofChange wordAlignsSpec)

/-- ITS FALSE NEIGHBOUR: 'it returns false'. Refute it at one input. -/
def wordAlignsWrong : ChangeSpec := { name := "wordAligns", fn := fun _ => fun
  | [d1, d2, d3] => { results := [.lit (.bool false)], args := [d1, d2, d3] }
  | _ => none }
def WordAlignsWrongFalsely : Prop := wordAlignsRow.holds Try.pinned (OpenSpec.ofChange wordAlignsWrong)

/-- 'bedrocklaw01.WordPacks': WHATEVER THE INPUT: true; the input reads as it did. -/
def wordPacksSpec : ChangeSpec := { name := "wordPacks", fn := fun _ => fun
  | [d] => { results := [.lit (.bool true)], args := [d] }
  | _ => none }
def wordPacksRow : OpenClaim := { program := "ytgfiddjlbjlolaa", sum := "19b4035619f43526be3caf4b6be0677ee10a96cf4980828029b160f6e5bc0b43", func := "bedrock/bedrocklaw01.WordPacks", spec := "wordPacks", inPlace := ["math/bits.Add64"], apart := false }
def WordPacksSaid : Prop := wordPacksRow.holds Try.pinned (OpenSpec.ofChange wordPacksSpec)

/-- ITS FALSE NEIGHBOUR: 'it returns false'. Refute it at one input. -/
def wordPacksWrong : ChangeSpec := { name := "wordPacks", fn := fun _ => fun
  | [d] => { results := [.lit (.bool false)], args := [d] }
  | _ => none }
def WordPacksWrongFalsely : Prop := wordPacksRow.holds Try.pinned (OpenSpec.ofChange wordPacksWrong)

/-- 'bedrocklaw01.WordUnpacks': WHATEVER THE INPUT: true; the input reads as it did. -/
def wordUnpacksSpec : ChangeSpec := { name := "wordUnpacks", fn := fun _ => fun
  | [d1, d2] => { results := [.lit (.bool true)], args := [d1, d2] }
  | _ => none }
def wordUnpacksRow : OpenClaim := { program := "ytgfiddjlbjlolaa", sum := "19b4035619f43526be3caf4b6be0677ee10a96cf4980828029b160f6e5bc0b43", func := "bedrock/bedrocklaw01.WordUnpacks", spec := "wordUnpacks", inPlace := ["math/bits.Add64"], apart := false }
def WordUnpacksSaid : Prop := wordUnpacksRow.holds Try.pinned (OpenSpec.ofChange wordUnpacksSpec)

/-- ITS FALSE NEIGHBOUR: 'it returns false'. Refute it at one input. -/
def wordUnpacksWrong : ChangeSpec := { name := "wordUnpacks", fn := fun _ => fun
  | [d1, d2] => { results := [.lit (.bool false)], args := [d1, d2] }
  | _ => none }
def WordUnpacksWrongFalsely : Prop := wordUnpacksRow.holds Try.pinned (OpenSpec.ofChange wordUnpacksWrong)

/-- 'bedrocklaw01.WordHashes': WHATEVER THE INPUT: true; the input reads as it did. -/
def wordHashesSpec : ChangeSpec := { name := "wordHashes", fn := fun _ => fun
  | [d1, d2] => { results := [.lit (.bool true)], args := [d1, d2] }
  | _ => none }
def wordHashesRow : OpenClaim := { program := "ytgfiddjlbjlolaa", sum := "19b4035619f43526be3caf4b6be0677ee10a96cf4980828029b160f6e5bc0b43", func := "bedrock/bedrocklaw01.WordHashes", spec := "wordHashes", inPlace := ["math/bits.Add64"], apart := false }
def WordHashesSaid : Prop := wordHashesRow.holds Try.pinned (OpenSpec.ofChange wordHashesSpec)

/-- ITS FALSE NEIGHBOUR: 'it returns false'. Refute it at one input. -/
def wordHashesWrong : ChangeSpec := { name := "wordHashes", fn := fun _ => fun
  | [d1, d2] => { results := [.lit (.bool false)], args := [d1, d2] }
  | _ => none }
def WordHashesWrongFalsely : Prop := wordHashesRow.holds Try.pinned (OpenSpec.ofChange wordHashesWrong)

/-- 'bedrocklaw01.WordMixDiffers': WHATEVER THE INPUT: true; the input reads as it did. -/
def wordMixDiffersSpec : ChangeSpec := { name := "wordMixDiffers", fn := fun _ => fun
  | [d1, d2] => { results := [.lit (.bool true)], args := [d1, d2] }
  | _ => none }
def wordMixDiffersRow : OpenClaim := { program := "ytgfiddjlbjlolaa", sum := "19b4035619f43526be3caf4b6be0677ee10a96cf4980828029b160f6e5bc0b43", func := "bedrock/bedrocklaw01.WordMixDiffers", spec := "wordMixDiffers", inPlace := ["math/bits.Add64"], apart := false }
def WordMixDiffersSaid : Prop := wordMixDiffersRow.holds Try.pinned (OpenSpec.ofChange wordMixDiffersSpec)

/-- ITS FALSE NEIGHBOUR: 'it returns false'. Refute it at one input. -/
def wordMixDiffersWrong : ChangeSpec := { name := "wordMixDiffers", fn := fun _ => fun
  | [d1, d2] => { results := [.lit (.bool false)], args := [d1, d2] }
  | _ => none }
def WordMixDiffersWrongFalsely : Prop := wordMixDiffersRow.holds Try.pinned (OpenSpec.ofChange wordMixDiffersWrong)

/-- 'bedrocklaw01.WordOrders': WHATEVER THE INPUT: true; the input reads as it did. -/
def wordOrdersSpec : ChangeSpec := { name := "wordOrders", fn := fun _ => fun
  | [d1, d2, d3] => { results := [.lit (.bool true)], args := [d1, d2, d3] }
  | _ => none }
def wordOrdersRow : OpenClaim := { program := "ytgfiddjlbjlolaa", sum := "19b4035619f43526be3caf4b6be0677ee10a96cf4980828029b160f6e5bc0b43", func := "bedrock/bedrocklaw01.WordOrders", spec := "wordOrders", inPlace := ["math/bits.Add64"], apart := false }
def WordOrdersSaid : Prop := wordOrdersRow.holds Try.pinned (OpenSpec.ofChange wordOrdersSpec)

/-- ITS FALSE NEIGHBOUR: 'it returns false'. Refute it at one input. -/
def wordOrdersWrong : ChangeSpec := { name := "wordOrders", fn := fun _ => fun
  | [d1, d2, d3] => { results := [.lit (.bool false)], args := [d1, d2, d3] }
  | _ => none }
def WordOrdersWrongFalsely : Prop := wordOrdersRow.holds Try.pinned (OpenSpec.ofChange wordOrdersWrong)

/- THE SECOND FORM. 'bulk': how many values and letters a reading holds, each counted each time it is reached (what is shared counts as often as it is met; a slice's spare places count too). A statement '..UptoSaid' is the law's where the arguments, and the package variables that the reading takes, are together of bulk at most 1048576: NARROWER than '..Said'. Prove '..Said' where nothing that the law and all that it calls make is longer than what came in: it says more and counts as full. Else prove '..UptoSaid'. A law counts once. -/
mutual
def uptoBulk {H : Type} : DataW H → Nat
  | .lit (.string bytes) => bytes.length + 1
  | .lit _ => 1
  | .nil => 1
  | .ptr d => uptoBulk d + 1
  | .slice elems spare => uptoBulkAll elems + uptoBulkAll spare + 1
  | .agg parts => uptoBulkAll parts + 1
  | .iface _ d => uptoBulk d + 1
  | .map entries => uptoBulkEntries entries + 1
  | .held _ => 1
def uptoBulkAll {H : Type} : List (DataW H) → Nat
  | [] => 0
  | d :: r => uptoBulk d + uptoBulkAll r
def uptoBulkEntries {H : Type} : List (Lit × DataW H) → Nat
  | [] => 0
  | x :: r => uptoBulkEntry x + uptoBulkEntries r
def uptoBulkEntry {H : Type} : Lit × DataW H → Nat
  | (.string bytes, d) => bytes.length + uptoBulk d + 1
  | (_, d) => uptoBulk d + 1
 end
def uptoSmall : (H : Type) → List (DataW H) → Bool := fun _ ds => decide (uptoBulkAll ds ≤ 1048576)
def OpenSpec.upto (s : _root_.Go.ChangeSpec) : _root_.Go.OpenSpec := { _root_.Go.OpenSpec.ofChange s with cond := some uptoSmall }

/-- 'bedrocklaw01.WordFields', WHERE WHAT IT READS IS OF BULK AT MOST 1048576: true; the input reads as it did. -/
def wordFieldsUptoRow : OpenClaim := { program := "ytgfiddjlbjlolaa", sum := "19b4035619f43526be3caf4b6be0677ee10a96cf4980828029b160f6e5bc0b43", func := "bedrock/bedrocklaw01.WordFields", spec := "wordFields", inPlace := ["math/bits.Add64"], apart := false, narrowed := true }
def WordFieldsUptoSaid : Prop := wordFieldsUptoRow.holds Try.pinned (OpenSpec.upto wordFieldsSpec)

/-- 'bedrocklaw01.WordFieldSet', WHERE WHAT IT READS IS OF BULK AT MOST 1048576: true; the input reads as it did. -/
def wordFieldSetUptoRow : OpenClaim := { program := "ytgfiddjlbjlolaa", sum := "19b4035619f43526be3caf4b6be0677ee10a96cf4980828029b160f6e5bc0b43", func := "bedrock/bedrocklaw01.WordFieldSet", spec := "wordFieldSet", inPlace := ["math/bits.Add64"], apart := false, narrowed := true }
def WordFieldSetUptoSaid : Prop := wordFieldSetUptoRow.holds Try.pinned (OpenSpec.upto wordFieldSetSpec)

/-- 'bedrocklaw01.WordAligns', WHERE WHAT IT READS IS OF BULK AT MOST 1048576: true; the input reads as it did. -/
def wordAlignsUptoRow : OpenClaim := { program := "ytgfiddjlbjlolaa", sum := "19b4035619f43526be3caf4b6be0677ee10a96cf4980828029b160f6e5bc0b43", func := "bedrock/bedrocklaw01.WordAligns", spec := "wordAligns", inPlace := ["math/bits.Add64"], apart := false, narrowed := true }
def WordAlignsUptoSaid : Prop := wordAlignsUptoRow.holds Try.pinned (OpenSpec.upto wordAlignsSpec)

/-- 'bedrocklaw01.WordPacks', WHERE WHAT IT READS IS OF BULK AT MOST 1048576: true; the input reads as it did. -/
def wordPacksUptoRow : OpenClaim := { program := "ytgfiddjlbjlolaa", sum := "19b4035619f43526be3caf4b6be0677ee10a96cf4980828029b160f6e5bc0b43", func := "bedrock/bedrocklaw01.WordPacks", spec := "wordPacks", inPlace := ["math/bits.Add64"], apart := false, narrowed := true }
def WordPacksUptoSaid : Prop := wordPacksUptoRow.holds Try.pinned (OpenSpec.upto wordPacksSpec)

/-- 'bedrocklaw01.WordUnpacks', WHERE WHAT IT READS IS OF BULK AT MOST 1048576: true; the input reads as it did. -/
def wordUnpacksUptoRow : OpenClaim := { program := "ytgfiddjlbjlolaa", sum := "19b4035619f43526be3caf4b6be0677ee10a96cf4980828029b160f6e5bc0b43", func := "bedrock/bedrocklaw01.WordUnpacks", spec := "wordUnpacks", inPlace := ["math/bits.Add64"], apart := false, narrowed := true }
def WordUnpacksUptoSaid : Prop := wordUnpacksUptoRow.holds Try.pinned (OpenSpec.upto wordUnpacksSpec)

/-- 'bedrocklaw01.WordHashes', WHERE WHAT IT READS IS OF BULK AT MOST 1048576: true; the input reads as it did. -/
def wordHashesUptoRow : OpenClaim := { program := "ytgfiddjlbjlolaa", sum := "19b4035619f43526be3caf4b6be0677ee10a96cf4980828029b160f6e5bc0b43", func := "bedrock/bedrocklaw01.WordHashes", spec := "wordHashes", inPlace := ["math/bits.Add64"], apart := false, narrowed := true }
def WordHashesUptoSaid : Prop := wordHashesUptoRow.holds Try.pinned (OpenSpec.upto wordHashesSpec)

/-- 'bedrocklaw01.WordMixDiffers', WHERE WHAT IT READS IS OF BULK AT MOST 1048576: true; the input reads as it did. -/
def wordMixDiffersUptoRow : OpenClaim := { program := "ytgfiddjlbjlolaa", sum := "19b4035619f43526be3caf4b6be0677ee10a96cf4980828029b160f6e5bc0b43", func := "bedrock/bedrocklaw01.WordMixDiffers", spec := "wordMixDiffers", inPlace := ["math/bits.Add64"], apart := false, narrowed := true }
def WordMixDiffersUptoSaid : Prop := wordMixDiffersUptoRow.holds Try.pinned (OpenSpec.upto wordMixDiffersSpec)

/-- 'bedrocklaw01.WordOrders', WHERE WHAT IT READS IS OF BULK AT MOST 1048576: true; the input reads as it did. -/
def wordOrdersUptoRow : OpenClaim := { program := "ytgfiddjlbjlolaa", sum := "19b4035619f43526be3caf4b6be0677ee10a96cf4980828029b160f6e5bc0b43", func := "bedrock/bedrocklaw01.WordOrders", spec := "wordOrders", inPlace := ["math/bits.Add64"], apart := false, narrowed := true }
def WordOrdersUptoSaid : Prop := wordOrdersUptoRow.holds Try.pinned (OpenSpec.upto wordOrdersSpec)

end Rows
end Go.Proofs.Ytgfiddjlbjlolaa
