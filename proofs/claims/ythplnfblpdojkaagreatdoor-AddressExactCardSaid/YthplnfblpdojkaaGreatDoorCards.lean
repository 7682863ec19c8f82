/-
  DERIVED. GIVEN WITH THE SEED: THE CARDS: each row of YthplnfblpdojkaaGreatDoorRows.lean that lists a variable, with what it lists TIED to the program's text (the seventh form; the later family's looks); each row that meets fmt, with fmt's text TOLD by the authors' own Lean function (tested against real Go, not proved from fmt's source: count such statements apart). THE CARD IS WHAT COUNTS. Prove the row's statement (the work); the ties are given (YthplnfblpdojkaaGreatDoorTie.lean); close each card by the builder's one call (the guide's Derived/Test/ToyasCard.lean, 'card_holds'). Laid BY PROGRAM, IN A SANDBOX (cutbox-door.mjs). By AI agents, Wed Nov 11 2026. No macro, syntax, notation, axiom, sorry.
-/
import Derived.Test.YthplnfblpdojkaaGreatDoorRows
import GoSem.ClaimSeven
namespace Go.Proofs.YthplnfblpdojkaaGreatDoor
namespace Rows

/-- THE TIED CARD OF 'recordlinklaw04.AddressExact'. -/
def addressExactCard : Claim7 := { stood := { row := addressExactRow, standIns := [], harness := (true, "69e32bca54914c5a5003129287091240b9038ef6ec8a3e00d2dac46e00aa4e83"), looks := false }, kinds := [], alts := [], laidByText := true, laidKinds := [.data, .data, .pinned], laidTests := true, laidLooks := .later }
def AddressExactCardSaid : Prop := Claim7.holds Tryz.pinned (.plain (OpenSpec.ofChange addressExactSpec)) addressExactCard

/-- THE SECOND FORM's CARD OF 'recordlinklaw04.AddressExact'. -/
def addressExactUptoCard : Claim7 := { stood := { row := addressExactUptoRow, standIns := [], harness := (true, "69e32bca54914c5a5003129287091240b9038ef6ec8a3e00d2dac46e00aa4e83"), looks := false }, kinds := [], alts := [], laidByText := true, laidKinds := [.data, .data, .pinned], laidTests := true, laidLooks := .later }
def AddressExactUptoCardSaid : Prop := Claim7.holds Tryz.pinned (.plain (OpenSpec.upto addressExactSpec)) addressExactUptoCard
end Rows
end Go.Proofs.YthplnfblpdojkaaGreatDoor
