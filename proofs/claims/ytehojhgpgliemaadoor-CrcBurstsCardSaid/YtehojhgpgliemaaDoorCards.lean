/-
  DERIVED. GIVEN WITH THE SEED: THE CARDS: each row of YtehojhgpgliemaaDoorRows.lean that lists a variable, with what it lists TIED to the program's text (the seventh form; the later family's looks); each row that meets fmt, with fmt's text TOLD by the authors' own Lean function (tested against real Go, not proved from fmt's source: count such statements apart). THE CARD IS WHAT COUNTS. Prove the row's statement (the work); the ties are given (YtehojhgpgliemaaDoorTie.lean); close each card by the builder's one call (the guide's Derived/Test/ToyasCard.lean, 'card_holds'). Laid BY PROGRAM, IN A SANDBOX (cutbox-door.mjs). By AI agents, Wed Nov 11 2026. No macro, syntax, notation, axiom, sorry.
-/
import Derived.Test.YtehojhgpgliemaaDoorRows
import GoSem.ClaimSeven
namespace Go.Proofs.YtehojhgpgliemaaDoor
namespace Rows

/-- THE TIED CARD OF 'bedrocklaw02.CrcSums'. -/
def crcSumsCard : Claim7 := { stood := { row := crcSumsRow, standIns := [], harness := (true, "455ca5cbc55863186f9c2eb8e1c2d36994de100732c456766a0b80970961d42e"), looks := false }, kinds := [], alts := [], laidByText := true, laidKinds := [.data, .data], laidTests := true, laidLooks := .later }
def CrcSumsCardSaid : Prop := Claim7.holds Tryd.pinned (.plain (OpenSpec.ofChange crcSumsSpec)) crcSumsCard

/-- THE TIED CARD OF 'bedrocklaw02.CrcUpdates'. -/
def crcUpdatesCard : Claim7 := { stood := { row := crcUpdatesRow, standIns := [], harness := (true, "455ca5cbc55863186f9c2eb8e1c2d36994de100732c456766a0b80970961d42e"), looks := false }, kinds := [], alts := [], laidByText := true, laidKinds := [.data, .data], laidTests := true, laidLooks := .later }
def CrcUpdatesCardSaid : Prop := Claim7.holds Tryd.pinned (.plain (OpenSpec.ofChange crcUpdatesSpec)) crcUpdatesCard

/-- THE TIED CARD OF 'bedrocklaw02.CrcSplits'. -/
def crcSplitsCard : Claim7 := { stood := { row := crcSplitsRow, standIns := [], harness := (true, "455ca5cbc55863186f9c2eb8e1c2d36994de100732c456766a0b80970961d42e"), looks := false }, kinds := [], alts := [], laidByText := true, laidKinds := [.data, .data], laidTests := true, laidLooks := .later }
def CrcSplitsCardSaid : Prop := Claim7.holds Tryd.pinned (.plain (OpenSpec.ofChange crcSplitsSpec)) crcSplitsCard

/-- THE TIED CARD OF 'bedrocklaw02.CrcWords'. -/
def crcWordsCard : Claim7 := { stood := { row := crcWordsRow, standIns := [], harness := (true, "455ca5cbc55863186f9c2eb8e1c2d36994de100732c456766a0b80970961d42e"), looks := false }, kinds := [], alts := [], laidByText := true, laidKinds := [.data, .data], laidTests := true, laidLooks := .later }
def CrcWordsCardSaid : Prop := Claim7.holds Tryd.pinned (.plain (OpenSpec.ofChange crcWordsSpec)) crcWordsCard

/-- THE TIED CARD OF 'bedrocklaw02.CrcCombines'. -/
def crcCombinesCard : Claim7 := { stood := { row := crcCombinesRow, standIns := [], harness := (true, "455ca5cbc55863186f9c2eb8e1c2d36994de100732c456766a0b80970961d42e"), looks := false }, kinds := [], alts := [], laidByText := true, laidKinds := [.data, .data], laidTests := true, laidLooks := .later }
def CrcCombinesCardSaid : Prop := Claim7.holds Tryd.pinned (.plain (OpenSpec.ofChange crcCombinesSpec)) crcCombinesCard

/-- THE TIED CARD OF 'bedrocklaw02.CrcJoins'. -/
def crcJoinsCard : Claim7 := { stood := { row := crcJoinsRow, standIns := [], harness := (true, "455ca5cbc55863186f9c2eb8e1c2d36994de100732c456766a0b80970961d42e"), looks := false }, kinds := [], alts := [], laidByText := true, laidKinds := [.data, .data], laidTests := true, laidLooks := .later }
def CrcJoinsCardSaid : Prop := Claim7.holds Tryd.pinned (.plain (OpenSpec.ofChange crcJoinsSpec)) crcJoinsCard

/-- THE TIED CARD OF 'bedrocklaw02.CrcBursts'. -/
def crcBurstsCard : Claim7 := { stood := { row := crcBurstsRow, standIns := [], harness := (true, "455ca5cbc55863186f9c2eb8e1c2d36994de100732c456766a0b80970961d42e"), looks := false }, kinds := [], alts := [], laidByText := true, laidKinds := [.data, .data], laidTests := true, laidLooks := .later }
def CrcBurstsCardSaid : Prop := Claim7.holds Tryd.pinned (.plain (OpenSpec.ofChange crcBurstsSpec)) crcBurstsCard

/-- THE TIED CARD OF 'bedrocklaw02.CrcDetects'. -/
def crcDetectsCard : Claim7 := { stood := { row := crcDetectsRow, standIns := [], harness := (true, "455ca5cbc55863186f9c2eb8e1c2d36994de100732c456766a0b80970961d42e"), looks := false }, kinds := [], alts := [], laidByText := true, laidKinds := [.data, .data], laidTests := true, laidLooks := .later }
def CrcDetectsCardSaid : Prop := Claim7.holds Tryd.pinned (.plain (OpenSpec.ofChange crcDetectsSpec)) crcDetectsCard

/-- THE TIED CARD OF 'bedrocklaw02.CrcLinear'. -/
def crcLinearCard : Claim7 := { stood := { row := crcLinearRow, standIns := [], harness := (true, "455ca5cbc55863186f9c2eb8e1c2d36994de100732c456766a0b80970961d42e"), looks := false }, kinds := [], alts := [], laidByText := true, laidKinds := [.data, .data], laidTests := true, laidLooks := .later }
def CrcLinearCardSaid : Prop := Claim7.holds Tryd.pinned (.plain (OpenSpec.ofChange crcLinearSpec)) crcLinearCard

/-- THE TIED CARD OF 'bedrocklaw02.CrcResidue'. -/
def crcResidueCard : Claim7 := { stood := { row := crcResidueRow, standIns := [], harness := (true, "455ca5cbc55863186f9c2eb8e1c2d36994de100732c456766a0b80970961d42e"), looks := false }, kinds := [], alts := [], laidByText := true, laidKinds := [.data, .data], laidTests := true, laidLooks := .later }
def CrcResidueCardSaid : Prop := Claim7.holds Tryd.pinned (.plain (OpenSpec.ofChange crcResidueSpec)) crcResidueCard

/-- THE SECOND FORM's CARD OF 'bedrocklaw02.CrcSums'. -/
def crcSumsUptoCard : Claim7 := { stood := { row := crcSumsUptoRow, standIns := [], harness := (true, "455ca5cbc55863186f9c2eb8e1c2d36994de100732c456766a0b80970961d42e"), looks := false }, kinds := [], alts := [], laidByText := true, laidKinds := [.data, .data], laidTests := true, laidLooks := .later }
def CrcSumsUptoCardSaid : Prop := Claim7.holds Tryd.pinned (.plain (OpenSpec.upto crcSumsSpec)) crcSumsUptoCard

/-- THE SECOND FORM's CARD OF 'bedrocklaw02.CrcUpdates'. -/
def crcUpdatesUptoCard : Claim7 := { stood := { row := crcUpdatesUptoRow, standIns := [], harness := (true, "455ca5cbc55863186f9c2eb8e1c2d36994de100732c456766a0b80970961d42e"), looks := false }, kinds := [], alts := [], laidByText := true, laidKinds := [.data, .data], laidTests := true, laidLooks := .later }
def CrcUpdatesUptoCardSaid : Prop := Claim7.holds Tryd.pinned (.plain (OpenSpec.upto crcUpdatesSpec)) crcUpdatesUptoCard

/-- THE SECOND FORM's CARD OF 'bedrocklaw02.CrcSplits'. -/
def crcSplitsUptoCard : Claim7 := { stood := { row := crcSplitsUptoRow, standIns := [], harness := (true, "455ca5cbc55863186f9c2eb8e1c2d36994de100732c456766a0b80970961d42e"), looks := false }, kinds := [], alts := [], laidByText := true, laidKinds := [.data, .data], laidTests := true, laidLooks := .later }
def CrcSplitsUptoCardSaid : Prop := Claim7.holds Tryd.pinned (.plain (OpenSpec.upto crcSplitsSpec)) crcSplitsUptoCard

/-- THE SECOND FORM's CARD OF 'bedrocklaw02.CrcWords'. -/
def crcWordsUptoCard : Claim7 := { stood := { row := crcWordsUptoRow, standIns := [], harness := (true, "455ca5cbc55863186f9c2eb8e1c2d36994de100732c456766a0b80970961d42e"), looks := false }, kinds := [], alts := [], laidByText := true, laidKinds := [.data, .data], laidTests := true, laidLooks := .later }
def CrcWordsUptoCardSaid : Prop := Claim7.holds Tryd.pinned (.plain (OpenSpec.upto crcWordsSpec)) crcWordsUptoCard

/-- THE SECOND FORM's CARD OF 'bedrocklaw02.CrcCombines'. -/
def crcCombinesUptoCard : Claim7 := { stood := { row := crcCombinesUptoRow, standIns := [], harness := (true, "455ca5cbc55863186f9c2eb8e1c2d36994de100732c456766a0b80970961d42e"), looks := false }, kinds := [], alts := [], laidByText := true, laidKinds := [.data, .data], laidTests := true, laidLooks := .later }
def CrcCombinesUptoCardSaid : Prop := Claim7.holds Tryd.pinned (.plain (OpenSpec.upto crcCombinesSpec)) crcCombinesUptoCard

/-- THE SECOND FORM's CARD OF 'bedrocklaw02.CrcJoins'. -/
def crcJoinsUptoCard : Claim7 := { stood := { row := crcJoinsUptoRow, standIns := [], harness := (true, "455ca5cbc55863186f9c2eb8e1c2d36994de100732c456766a0b80970961d42e"), looks := false }, kinds := [], alts := [], laidByText := true, laidKinds := [.data, .data], laidTests := true, laidLooks := .later }
def CrcJoinsUptoCardSaid : Prop := Claim7.holds Tryd.pinned (.plain (OpenSpec.upto crcJoinsSpec)) crcJoinsUptoCard

/-- THE SECOND FORM's CARD OF 'bedrocklaw02.CrcBursts'. -/
def crcBurstsUptoCard : Claim7 := { stood := { row := crcBurstsUptoRow, standIns := [], harness := (true, "455ca5cbc55863186f9c2eb8e1c2d36994de100732c456766a0b80970961d42e"), looks := false }, kinds := [], alts := [], laidByText := true, laidKinds := [.data, .data], laidTests := true, laidLooks := .later }
def CrcBurstsUptoCardSaid : Prop := Claim7.holds Tryd.pinned (.plain (OpenSpec.upto crcBurstsSpec)) crcBurstsUptoCard

/-- THE SECOND FORM's CARD OF 'bedrocklaw02.CrcDetects'. -/
def crcDetectsUptoCard : Claim7 := { stood := { row := crcDetectsUptoRow, standIns := [], harness := (true, "455ca5cbc55863186f9c2eb8e1c2d36994de100732c456766a0b80970961d42e"), looks := false }, kinds := [], alts := [], laidByText := true, laidKinds := [.data, .data], laidTests := true, laidLooks := .later }
def CrcDetectsUptoCardSaid : Prop := Claim7.holds Tryd.pinned (.plain (OpenSpec.upto crcDetectsSpec)) crcDetectsUptoCard

/-- THE SECOND FORM's CARD OF 'bedrocklaw02.CrcLinear'. -/
def crcLinearUptoCard : Claim7 := { stood := { row := crcLinearUptoRow, standIns := [], harness := (true, "455ca5cbc55863186f9c2eb8e1c2d36994de100732c456766a0b80970961d42e"), looks := false }, kinds := [], alts := [], laidByText := true, laidKinds := [.data, .data], laidTests := true, laidLooks := .later }
def CrcLinearUptoCardSaid : Prop := Claim7.holds Tryd.pinned (.plain (OpenSpec.upto crcLinearSpec)) crcLinearUptoCard

/-- THE SECOND FORM's CARD OF 'bedrocklaw02.CrcResidue'. -/
def crcResidueUptoCard : Claim7 := { stood := { row := crcResidueUptoRow, standIns := [], harness := (true, "455ca5cbc55863186f9c2eb8e1c2d36994de100732c456766a0b80970961d42e"), looks := false }, kinds := [], alts := [], laidByText := true, laidKinds := [.data, .data], laidTests := true, laidLooks := .later }
def CrcResidueUptoCardSaid : Prop := Claim7.holds Tryd.pinned (.plain (OpenSpec.upto crcResidueSpec)) crcResidueUptoCard
end Rows
end Go.Proofs.YtehojhgpgliemaaDoor
