/-
  DERIVED. GIVEN WITH THE SEED: THE CARDS: each row of YthplnfblpdojkaaDoorRows.lean that lists a variable, with what it lists TIED to the program's text (the seventh form; the later family's looks); each row that meets fmt, with fmt's text TOLD by the authors' own Lean function (tested against real Go, not proved from fmt's source: count such statements apart). THE CARD IS WHAT COUNTS. Prove the row's statement (the work); the ties are given (YthplnfblpdojkaaDoorTie.lean); close each card by the builder's one call (the guide's Derived/Test/ToyasCard.lean, 'card_holds'). Laid BY PROGRAM, IN A SANDBOX (cutbox-door.mjs). By AI agents, Wed Nov 11 2026. No macro, syntax, notation, axiom, sorry.
-/
import Derived.Test.YthplnfblpdojkaaDoorRows
import GoSem.ClaimSeven
namespace Go.Proofs.YthplnfblpdojkaaDoor
namespace Rows

/-- THE TIED CARD OF 'recordlinklaw04.AddressIdempotent'. -/
def addressIdempotentCard : Claim7 := { stood := { row := addressIdempotentRow, standIns := [], harness := (true, "4cfd98ec1c4b897385ebe4f46c5337263ca00a6836bb6d9bcf932f752e5b5326"), looks := false }, kinds := [], alts := [], laidByText := true, laidKinds := [.data, .data, .pinned], laidTests := true, laidLooks := .later }
def AddressIdempotentCardSaid : Prop := Claim7.holds Tryd.pinned (.plain (OpenSpec.ofChange addressIdempotentSpec)) addressIdempotentCard

/-- THE TIED CARD OF 'recordlinklaw04.AddressMoves'. -/
def addressMovesCard : Claim7 := { stood := { row := addressMovesRow, standIns := [], harness := (true, "4cfd98ec1c4b897385ebe4f46c5337263ca00a6836bb6d9bcf932f752e5b5326"), looks := false }, kinds := [], alts := [], laidByText := true, laidKinds := [.data, .data, .pinned], laidTests := true, laidLooks := .later }
def AddressMovesCardSaid : Prop := Claim7.holds Tryd.pinned (.plain (OpenSpec.ofChange addressMovesSpec)) addressMovesCard

/-- THE TIED CARD OF 'recordlinklaw04.AddressZeros'. -/
def addressZerosCard : Claim7 := { stood := { row := addressZerosRow, standIns := [], harness := (true, "4cfd98ec1c4b897385ebe4f46c5337263ca00a6836bb6d9bcf932f752e5b5326"), looks := false }, kinds := [], alts := [], laidByText := true, laidKinds := [.data, .data, .pinned], laidTests := true, laidLooks := .later }
def AddressZerosCardSaid : Prop := Claim7.holds Tryd.pinned (.plain (OpenSpec.ofChange addressZerosSpec)) addressZerosCard

/-- THE TIED CARD OF 'recordlinklaw04.AddressCodes'. -/
def addressCodesCard : Claim7 := { stood := { row := addressCodesRow, standIns := [], harness := (true, "4cfd98ec1c4b897385ebe4f46c5337263ca00a6836bb6d9bcf932f752e5b5326"), looks := false }, kinds := [], alts := [], laidByText := true, laidKinds := [.data, .data, .pinned], laidTests := true, laidLooks := .later }
def AddressCodesCardSaid : Prop := Claim7.holds Tryd.pinned (.plain (OpenSpec.ofChange addressCodesSpec)) addressCodesCard

/-- THE SECOND FORM's CARD OF 'recordlinklaw04.AddressIdempotent'. -/
def addressIdempotentUptoCard : Claim7 := { stood := { row := addressIdempotentUptoRow, standIns := [], harness := (true, "4cfd98ec1c4b897385ebe4f46c5337263ca00a6836bb6d9bcf932f752e5b5326"), looks := false }, kinds := [], alts := [], laidByText := true, laidKinds := [.data, .data, .pinned], laidTests := true, laidLooks := .later }
def AddressIdempotentUptoCardSaid : Prop := Claim7.holds Tryd.pinned (.plain (OpenSpec.upto addressIdempotentSpec)) addressIdempotentUptoCard

/-- THE SECOND FORM's CARD OF 'recordlinklaw04.AddressMoves'. -/
def addressMovesUptoCard : Claim7 := { stood := { row := addressMovesUptoRow, standIns := [], harness := (true, "4cfd98ec1c4b897385ebe4f46c5337263ca00a6836bb6d9bcf932f752e5b5326"), looks := false }, kinds := [], alts := [], laidByText := true, laidKinds := [.data, .data, .pinned], laidTests := true, laidLooks := .later }
def AddressMovesUptoCardSaid : Prop := Claim7.holds Tryd.pinned (.plain (OpenSpec.upto addressMovesSpec)) addressMovesUptoCard

/-- THE SECOND FORM's CARD OF 'recordlinklaw04.AddressZeros'. -/
def addressZerosUptoCard : Claim7 := { stood := { row := addressZerosUptoRow, standIns := [], harness := (true, "4cfd98ec1c4b897385ebe4f46c5337263ca00a6836bb6d9bcf932f752e5b5326"), looks := false }, kinds := [], alts := [], laidByText := true, laidKinds := [.data, .data, .pinned], laidTests := true, laidLooks := .later }
def AddressZerosUptoCardSaid : Prop := Claim7.holds Tryd.pinned (.plain (OpenSpec.upto addressZerosSpec)) addressZerosUptoCard

/-- THE SECOND FORM's CARD OF 'recordlinklaw04.AddressCodes'. -/
def addressCodesUptoCard : Claim7 := { stood := { row := addressCodesUptoRow, standIns := [], harness := (true, "4cfd98ec1c4b897385ebe4f46c5337263ca00a6836bb6d9bcf932f752e5b5326"), looks := false }, kinds := [], alts := [], laidByText := true, laidKinds := [.data, .data, .pinned], laidTests := true, laidLooks := .later }
def AddressCodesUptoCardSaid : Prop := Claim7.holds Tryd.pinned (.plain (OpenSpec.upto addressCodesSpec)) addressCodesUptoCard
end Rows
end Go.Proofs.YthplnfblpdojkaaDoor
