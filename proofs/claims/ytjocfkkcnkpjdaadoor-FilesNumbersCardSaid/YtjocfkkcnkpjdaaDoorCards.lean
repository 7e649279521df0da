/-
  DERIVED. GIVEN WITH THE SEED: THE CARDS: each row of YtjocfkkcnkpjdaaDoorRows.lean that lists a variable, with what it lists TIED to the program's text (the seventh form; the later family's looks); each row that meets fmt, with fmt's text TOLD by the authors' own Lean function (tested against real Go, not proved from fmt's source: count such statements apart). THE CARD IS WHAT COUNTS. Prove the row's statement (the work); the ties are given (YtjocfkkcnkpjdaaDoorTie.lean); close each card by the builder's one call (the guide's Derived/Test/ToyasCard.lean, 'card_holds'). Laid BY PROGRAM, IN A SANDBOX (cutbox-door.mjs). By AI agents, Wed Nov 11 2026. No macro, syntax, notation, axiom, sorry.
-/
import Derived.Test.YtjocfkkcnkpjdaaDoorRows
import GoSem.ClaimSeven
namespace Go.Proofs.YtjocfkkcnkpjdaaDoor
namespace Rows

/-- THE TIED CARD OF 'bordereaulaw7.FilesNumbers'. -/
def filesNumbersCard : Claim7 := { stood := { row := filesNumbersRow, standIns := [], harness := (true, "7aa89cd7a1f863723287b46134dff1b216b3129a9e4aa86e57a54623f8ef6c0c"), looks := false }, kinds := [], alts := [], laidByText := true, laidKinds := [.data, .pinned], laidTests := true, laidLooks := .later }
def FilesNumbersCardSaid : Prop := Claim7.holds Tryd.pinned (.plain (OpenSpec.ofChange filesNumbersSpec)) filesNumbersCard

/-- THE TIED CARD OF 'bordereaulaw7.FilesPlays'. -/
def filesPlaysCard : Claim7 := { stood := { row := filesPlaysRow, standIns := [], harness := (true, "7aa89cd7a1f863723287b46134dff1b216b3129a9e4aa86e57a54623f8ef6c0c"), looks := false }, kinds := [], alts := [], laidByText := true, laidKinds := [.data, .pinned], laidTests := true, laidLooks := .later }
def FilesPlaysCardSaid : Prop := Claim7.holds Tryd.pinned (.plain (OpenSpec.ofChange filesPlaysSpec)) filesPlaysCard

/-- THE TIED CARD OF 'bordereaulaw7.FilesKeep'. -/
def filesKeepCard : Claim7 := { stood := { row := filesKeepRow, standIns := [], harness := (true, "7aa89cd7a1f863723287b46134dff1b216b3129a9e4aa86e57a54623f8ef6c0c"), looks := false }, kinds := [], alts := [], laidByText := true, laidKinds := [.data, .pinned], laidTests := true, laidLooks := .later }
def FilesKeepCardSaid : Prop := Claim7.holds Tryd.pinned (.plain (OpenSpec.ofChange filesKeepSpec)) filesKeepCard

/-- THE TIED CARD OF 'bordereaulaw7.FilesStop'. -/
def filesStopCard : Claim7 := { stood := { row := filesStopRow, standIns := [], harness := (true, "7aa89cd7a1f863723287b46134dff1b216b3129a9e4aa86e57a54623f8ef6c0c"), looks := false }, kinds := [], alts := [], laidByText := true, laidKinds := [.data, .pinned], laidTests := true, laidLooks := .later }
def FilesStopCardSaid : Prop := Claim7.holds Tryd.pinned (.plain (OpenSpec.ofChange filesStopSpec)) filesStopCard

/-- THE TIED CARD OF 'bordereaulaw7.FilesRename'. -/
def filesRenameCard : Claim7 := { stood := { row := filesRenameRow, standIns := [], harness := (true, "7aa89cd7a1f863723287b46134dff1b216b3129a9e4aa86e57a54623f8ef6c0c"), looks := false }, kinds := [], alts := [], laidByText := true, laidKinds := [.data, .pinned], laidTests := true, laidLooks := .later }
def FilesRenameCardSaid : Prop := Claim7.holds Tryd.pinned (.plain (OpenSpec.ofChange filesRenameSpec)) filesRenameCard

/-- THE TIED CARD OF 'bordereaulaw7.FilesApart'. -/
def filesApartCard : Claim7 := { stood := { row := filesApartRow, standIns := [], harness := (true, "7aa89cd7a1f863723287b46134dff1b216b3129a9e4aa86e57a54623f8ef6c0c"), looks := false }, kinds := [], alts := [], laidByText := true, laidKinds := [.data, .pinned], laidTests := true, laidLooks := .later }
def FilesApartCardSaid : Prop := Claim7.holds Tryd.pinned (.plain (OpenSpec.ofChange filesApartSpec)) filesApartCard

/-- THE SECOND FORM's CARD OF 'bordereaulaw7.FilesNumbers'. -/
def filesNumbersUptoCard : Claim7 := { stood := { row := filesNumbersUptoRow, standIns := [], harness := (true, "7aa89cd7a1f863723287b46134dff1b216b3129a9e4aa86e57a54623f8ef6c0c"), looks := false }, kinds := [], alts := [], laidByText := true, laidKinds := [.data, .pinned], laidTests := true, laidLooks := .later }
def FilesNumbersUptoCardSaid : Prop := Claim7.holds Tryd.pinned (.plain (OpenSpec.upto filesNumbersSpec)) filesNumbersUptoCard

/-- THE SECOND FORM's CARD OF 'bordereaulaw7.FilesPlays'. -/
def filesPlaysUptoCard : Claim7 := { stood := { row := filesPlaysUptoRow, standIns := [], harness := (true, "7aa89cd7a1f863723287b46134dff1b216b3129a9e4aa86e57a54623f8ef6c0c"), looks := false }, kinds := [], alts := [], laidByText := true, laidKinds := [.data, .pinned], laidTests := true, laidLooks := .later }
def FilesPlaysUptoCardSaid : Prop := Claim7.holds Tryd.pinned (.plain (OpenSpec.upto filesPlaysSpec)) filesPlaysUptoCard

/-- THE SECOND FORM's CARD OF 'bordereaulaw7.FilesKeep'. -/
def filesKeepUptoCard : Claim7 := { stood := { row := filesKeepUptoRow, standIns := [], harness := (true, "7aa89cd7a1f863723287b46134dff1b216b3129a9e4aa86e57a54623f8ef6c0c"), looks := false }, kinds := [], alts := [], laidByText := true, laidKinds := [.data, .pinned], laidTests := true, laidLooks := .later }
def FilesKeepUptoCardSaid : Prop := Claim7.holds Tryd.pinned (.plain (OpenSpec.upto filesKeepSpec)) filesKeepUptoCard

/-- THE SECOND FORM's CARD OF 'bordereaulaw7.FilesStop'. -/
def filesStopUptoCard : Claim7 := { stood := { row := filesStopUptoRow, standIns := [], harness := (true, "7aa89cd7a1f863723287b46134dff1b216b3129a9e4aa86e57a54623f8ef6c0c"), looks := false }, kinds := [], alts := [], laidByText := true, laidKinds := [.data, .pinned], laidTests := true, laidLooks := .later }
def FilesStopUptoCardSaid : Prop := Claim7.holds Tryd.pinned (.plain (OpenSpec.upto filesStopSpec)) filesStopUptoCard

/-- THE SECOND FORM's CARD OF 'bordereaulaw7.FilesRename'. -/
def filesRenameUptoCard : Claim7 := { stood := { row := filesRenameUptoRow, standIns := [], harness := (true, "7aa89cd7a1f863723287b46134dff1b216b3129a9e4aa86e57a54623f8ef6c0c"), looks := false }, kinds := [], alts := [], laidByText := true, laidKinds := [.data, .pinned], laidTests := true, laidLooks := .later }
def FilesRenameUptoCardSaid : Prop := Claim7.holds Tryd.pinned (.plain (OpenSpec.upto filesRenameSpec)) filesRenameUptoCard

/-- THE SECOND FORM's CARD OF 'bordereaulaw7.FilesApart'. -/
def filesApartUptoCard : Claim7 := { stood := { row := filesApartUptoRow, standIns := [], harness := (true, "7aa89cd7a1f863723287b46134dff1b216b3129a9e4aa86e57a54623f8ef6c0c"), looks := false }, kinds := [], alts := [], laidByText := true, laidKinds := [.data, .pinned], laidTests := true, laidLooks := .later }
def FilesApartUptoCardSaid : Prop := Claim7.holds Tryd.pinned (.plain (OpenSpec.upto filesApartSpec)) filesApartUptoCard
end Rows
end Go.Proofs.YtjocfkkcnkpjdaaDoor
