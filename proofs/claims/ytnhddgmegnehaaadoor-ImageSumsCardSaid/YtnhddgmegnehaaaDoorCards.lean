/-
  DERIVED. GIVEN WITH THE SEED: THE CARDS: each row of YtnhddgmegnehaaaDoorRows.lean that lists a variable, with what it lists TIED to the program's text (the seventh form; the later family's looks); each row that meets fmt, with fmt's text TOLD by the authors' own Lean function (tested against real Go, not proved from fmt's source: count such statements apart). THE CARD IS WHAT COUNTS. Prove the row's statement (the work); the ties are given (YtnhddgmegnehaaaDoorTie.lean); close each card by the builder's one call (the guide's Derived/Test/ToyasCard.lean, 'card_holds'). Laid BY PROGRAM, IN A SANDBOX (cutbox-door.mjs). By AI agents, Wed Nov 11 2026. No macro, syntax, notation, axiom, sorry.
-/
import Derived.Test.YtnhddgmegnehaaaDoorRows
import GoSem.ClaimSeven
namespace Go.Proofs.YtnhddgmegnehaaaDoor
namespace Rows

/-- THE TIED CARD OF 'bedrocklaw04.ImageBytes'. -/
def imageBytesCard : Claim7 := { stood := { row := imageBytesRow, standIns := [], harness := (true, "f7fae1907245c880a99f0d5865a006d798fd5cbe4255dedde2c21f6e1590cfe8"), looks := false }, kinds := [], alts := [], laidByText := true, laidKinds := [.data, .data, .data, .data, .pinned], laidTests := true, laidLooks := .later }
def ImageBytesCardSaid : Prop := Claim7.holds Tryd.pinned (.plain (OpenSpec.ofChange imageBytesSpec)) imageBytesCard

/-- THE TIED CARD OF 'bedrocklaw04.ImageWords'. -/
def imageWordsCard : Claim7 := { stood := { row := imageWordsRow, standIns := [], harness := (true, "f7fae1907245c880a99f0d5865a006d798fd5cbe4255dedde2c21f6e1590cfe8"), looks := false }, kinds := [], alts := [], laidByText := true, laidKinds := [.data, .data, .data, .data, .pinned], laidTests := true, laidLooks := .later }
def ImageWordsCardSaid : Prop := Claim7.holds Tryd.pinned (.plain (OpenSpec.ofChange imageWordsSpec)) imageWordsCard

/-- THE TIED CARD OF 'bedrocklaw04.ImageResizes'. -/
def imageResizesCard : Claim7 := { stood := { row := imageResizesRow, standIns := [], harness := (true, "f7fae1907245c880a99f0d5865a006d798fd5cbe4255dedde2c21f6e1590cfe8"), looks := false }, kinds := [], alts := [], laidByText := true, laidKinds := [.data, .data, .data, .data, .pinned], laidTests := true, laidLooks := .later }
def ImageResizesCardSaid : Prop := Claim7.holds Tryd.pinned (.plain (OpenSpec.ofChange imageResizesSpec)) imageResizesCard

/-- THE TIED CARD OF 'bedrocklaw04.ImageDiffers'. -/
def imageDiffersCard : Claim7 := { stood := { row := imageDiffersRow, standIns := [], harness := (true, "f7fae1907245c880a99f0d5865a006d798fd5cbe4255dedde2c21f6e1590cfe8"), looks := false }, kinds := [], alts := [], laidByText := true, laidKinds := [.data, .data, .data, .data, .pinned], laidTests := true, laidLooks := .later }
def ImageDiffersCardSaid : Prop := Claim7.holds Tryd.pinned (.plain (OpenSpec.ofChange imageDiffersSpec)) imageDiffersCard

/-- THE TIED CARD OF 'bedrocklaw04.ImageSums'. -/
def imageSumsCard : Claim7 := { stood := { row := imageSumsRow, standIns := [], harness := (true, "f7fae1907245c880a99f0d5865a006d798fd5cbe4255dedde2c21f6e1590cfe8"), looks := false }, kinds := [], alts := [], laidByText := true, laidKinds := [.data, .data, .data, .data, .data, .data, .pinned], laidTests := true, laidLooks := .later }
def ImageSumsCardSaid : Prop := Claim7.holds Tryd.pinned (.plain (OpenSpec.ofChange imageSumsSpec)) imageSumsCard

/-- THE TIED CARD OF 'bedrocklaw04.ImageDevices'. -/
def imageDevicesCard : Claim7 := { stood := { row := imageDevicesRow, standIns := [], harness := (true, "f7fae1907245c880a99f0d5865a006d798fd5cbe4255dedde2c21f6e1590cfe8"), looks := false }, kinds := [], alts := [], laidByText := true, laidKinds := [.data, .data, .data, .data, .pinned], laidTests := true, laidLooks := .later }
def ImageDevicesCardSaid : Prop := Claim7.holds Tryd.pinned (.plain (OpenSpec.ofChange imageDevicesSpec)) imageDevicesCard

/-- THE TIED CARD OF 'bedrocklaw04.ImageZero'. -/
def imageZeroCard : Claim7 := { stood := { row := imageZeroRow, standIns := [], harness := (true, "f7fae1907245c880a99f0d5865a006d798fd5cbe4255dedde2c21f6e1590cfe8"), looks := false }, kinds := [], alts := [], laidByText := true, laidKinds := [.data, .data, .data, .data, .pinned], laidTests := true, laidLooks := .later }
def ImageZeroCardSaid : Prop := Claim7.holds Tryd.pinned (.plain (OpenSpec.ofChange imageZeroSpec)) imageZeroCard

/-- THE SECOND FORM's CARD OF 'bedrocklaw04.ImageBytes'. -/
def imageBytesUptoCard : Claim7 := { stood := { row := imageBytesUptoRow, standIns := [], harness := (true, "f7fae1907245c880a99f0d5865a006d798fd5cbe4255dedde2c21f6e1590cfe8"), looks := false }, kinds := [], alts := [], laidByText := true, laidKinds := [.data, .data, .data, .data, .pinned], laidTests := true, laidLooks := .later }
def ImageBytesUptoCardSaid : Prop := Claim7.holds Tryd.pinned (.plain (OpenSpec.upto imageBytesSpec)) imageBytesUptoCard

/-- THE SECOND FORM's CARD OF 'bedrocklaw04.ImageWords'. -/
def imageWordsUptoCard : Claim7 := { stood := { row := imageWordsUptoRow, standIns := [], harness := (true, "f7fae1907245c880a99f0d5865a006d798fd5cbe4255dedde2c21f6e1590cfe8"), looks := false }, kinds := [], alts := [], laidByText := true, laidKinds := [.data, .data, .data, .data, .pinned], laidTests := true, laidLooks := .later }
def ImageWordsUptoCardSaid : Prop := Claim7.holds Tryd.pinned (.plain (OpenSpec.upto imageWordsSpec)) imageWordsUptoCard

/-- THE SECOND FORM's CARD OF 'bedrocklaw04.ImageResizes'. -/
def imageResizesUptoCard : Claim7 := { stood := { row := imageResizesUptoRow, standIns := [], harness := (true, "f7fae1907245c880a99f0d5865a006d798fd5cbe4255dedde2c21f6e1590cfe8"), looks := false }, kinds := [], alts := [], laidByText := true, laidKinds := [.data, .data, .data, .data, .pinned], laidTests := true, laidLooks := .later }
def ImageResizesUptoCardSaid : Prop := Claim7.holds Tryd.pinned (.plain (OpenSpec.upto imageResizesSpec)) imageResizesUptoCard

/-- THE SECOND FORM's CARD OF 'bedrocklaw04.ImageDiffers'. -/
def imageDiffersUptoCard : Claim7 := { stood := { row := imageDiffersUptoRow, standIns := [], harness := (true, "f7fae1907245c880a99f0d5865a006d798fd5cbe4255dedde2c21f6e1590cfe8"), looks := false }, kinds := [], alts := [], laidByText := true, laidKinds := [.data, .data, .data, .data, .pinned], laidTests := true, laidLooks := .later }
def ImageDiffersUptoCardSaid : Prop := Claim7.holds Tryd.pinned (.plain (OpenSpec.upto imageDiffersSpec)) imageDiffersUptoCard

/-- THE SECOND FORM's CARD OF 'bedrocklaw04.ImageSums'. -/
def imageSumsUptoCard : Claim7 := { stood := { row := imageSumsUptoRow, standIns := [], harness := (true, "f7fae1907245c880a99f0d5865a006d798fd5cbe4255dedde2c21f6e1590cfe8"), looks := false }, kinds := [], alts := [], laidByText := true, laidKinds := [.data, .data, .data, .data, .data, .data, .pinned], laidTests := true, laidLooks := .later }
def ImageSumsUptoCardSaid : Prop := Claim7.holds Tryd.pinned (.plain (OpenSpec.upto imageSumsSpec)) imageSumsUptoCard

/-- THE SECOND FORM's CARD OF 'bedrocklaw04.ImageDevices'. -/
def imageDevicesUptoCard : Claim7 := { stood := { row := imageDevicesUptoRow, standIns := [], harness := (true, "f7fae1907245c880a99f0d5865a006d798fd5cbe4255dedde2c21f6e1590cfe8"), looks := false }, kinds := [], alts := [], laidByText := true, laidKinds := [.data, .data, .data, .data, .pinned], laidTests := true, laidLooks := .later }
def ImageDevicesUptoCardSaid : Prop := Claim7.holds Tryd.pinned (.plain (OpenSpec.upto imageDevicesSpec)) imageDevicesUptoCard

/-- THE SECOND FORM's CARD OF 'bedrocklaw04.ImageZero'. -/
def imageZeroUptoCard : Claim7 := { stood := { row := imageZeroUptoRow, standIns := [], harness := (true, "f7fae1907245c880a99f0d5865a006d798fd5cbe4255dedde2c21f6e1590cfe8"), looks := false }, kinds := [], alts := [], laidByText := true, laidKinds := [.data, .data, .data, .data, .pinned], laidTests := true, laidLooks := .later }
def ImageZeroUptoCardSaid : Prop := Claim7.holds Tryd.pinned (.plain (OpenSpec.upto imageZeroSpec)) imageZeroUptoCard
end Rows
end Go.Proofs.YtnhddgmegnehaaaDoor
