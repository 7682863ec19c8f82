/-
  DERIVED. GIVEN WITH THE SEED: THE CARDS: each row of YthkekcjgnlccdaaDoorRows.lean that lists a variable, with what it lists TIED to the program's text (the seventh form; the later family's looks); each row that meets fmt, with fmt's text TOLD by the authors' own Lean function (tested against real Go, not proved from fmt's source: count such statements apart). THE CARD IS WHAT COUNTS. Prove the row's statement (the work); the ties are given (YthkekcjgnlccdaaDoorTie.lean); close each card by the builder's one call (the guide's Derived/Test/ToyasCard.lean, 'card_holds'). Laid BY PROGRAM, IN A SANDBOX (cutbox-door.mjs). By AI agents, Wed Nov 11 2026. No macro, syntax, notation, axiom, sorry.
-/
import Derived.Test.YthkekcjgnlccdaaDoorRows
import GoSem.ClaimSeven
namespace Go.Proofs.YthkekcjgnlccdaaDoor
namespace Rows

/-- THE TIED CARD OF 'recordlinklaw01.TextExact'. -/
def textExactCard : Claim7 := { stood := { row := textExactRow, standIns := [], harness := (true, "3776b81e76abd53e4286f35b46155bc835662c8e3d7cb484d36c58ca3fa6d06f"), looks := false }, kinds := [], alts := [], laidByText := true, laidKinds := [.data, .data, .pinned], laidTests := true, laidLooks := .later }
def TextExactCardSaid : Prop := Claim7.holds Tryd.pinned (.plain (OpenSpec.ofChange textExactSpec)) textExactCard

/-- THE TIED CARD OF 'recordlinklaw01.TextIdempotent'. -/
def textIdempotentCard : Claim7 := { stood := { row := textIdempotentRow, standIns := [], harness := (true, "3776b81e76abd53e4286f35b46155bc835662c8e3d7cb484d36c58ca3fa6d06f"), looks := false }, kinds := [], alts := [], laidByText := true, laidKinds := [.data, .data, .pinned], laidTests := true, laidLooks := .later }
def TextIdempotentCardSaid : Prop := Claim7.holds Tryd.pinned (.plain (OpenSpec.ofChange textIdempotentSpec)) textIdempotentCard

/-- THE TIED CARD OF 'recordlinklaw01.TextDress'. -/
def textDressCard : Claim7 := { stood := { row := textDressRow, standIns := [], harness := (true, "3776b81e76abd53e4286f35b46155bc835662c8e3d7cb484d36c58ca3fa6d06f"), looks := false }, kinds := [], alts := [], laidByText := true, laidKinds := [.data, .data, .pinned], laidTests := true, laidLooks := .later }
def TextDressCardSaid : Prop := Claim7.holds Tryd.pinned (.plain (OpenSpec.ofChange textDressSpec)) textDressCard

/-- THE TIED CARD OF 'recordlinklaw01.TextTokens'. -/
def textTokensCard : Claim7 := { stood := { row := textTokensRow, standIns := [], harness := (true, "3776b81e76abd53e4286f35b46155bc835662c8e3d7cb484d36c58ca3fa6d06f"), looks := false }, kinds := [], alts := [], laidByText := true, laidKinds := [.data, .data, .pinned], laidTests := true, laidLooks := .later }
def TextTokensCardSaid : Prop := Claim7.holds Tryd.pinned (.plain (OpenSpec.ofChange textTokensSpec)) textTokensCard

/-- THE TIED CARD OF 'recordlinklaw01.TextPairs'. -/
def textPairsCard : Claim7 := { stood := { row := textPairsRow, standIns := [], harness := (true, "3776b81e76abd53e4286f35b46155bc835662c8e3d7cb484d36c58ca3fa6d06f"), looks := false }, kinds := [], alts := [], laidByText := true, laidKinds := [.data, .data, .pinned], laidTests := true, laidLooks := .later }
def TextPairsCardSaid : Prop := Claim7.holds Tryd.pinned (.plain (OpenSpec.ofChange textPairsSpec)) textPairsCard

/-- THE TIED CARD OF 'recordlinklaw01.TextParts'. -/
def textPartsCard : Claim7 := { stood := { row := textPartsRow, standIns := [], harness := (true, "3776b81e76abd53e4286f35b46155bc835662c8e3d7cb484d36c58ca3fa6d06f"), looks := false }, kinds := [], alts := [], laidByText := true, laidKinds := [.data, .data, .pinned], laidTests := true, laidLooks := .later }
def TextPartsCardSaid : Prop := Claim7.holds Tryd.pinned (.plain (OpenSpec.ofChange textPartsSpec)) textPartsCard

/-- THE SECOND FORM's CARD OF 'recordlinklaw01.TextExact'. -/
def textExactUptoCard : Claim7 := { stood := { row := textExactUptoRow, standIns := [], harness := (true, "3776b81e76abd53e4286f35b46155bc835662c8e3d7cb484d36c58ca3fa6d06f"), looks := false }, kinds := [], alts := [], laidByText := true, laidKinds := [.data, .data, .pinned], laidTests := true, laidLooks := .later }
def TextExactUptoCardSaid : Prop := Claim7.holds Tryd.pinned (.plain (OpenSpec.upto textExactSpec)) textExactUptoCard

/-- THE SECOND FORM's CARD OF 'recordlinklaw01.TextIdempotent'. -/
def textIdempotentUptoCard : Claim7 := { stood := { row := textIdempotentUptoRow, standIns := [], harness := (true, "3776b81e76abd53e4286f35b46155bc835662c8e3d7cb484d36c58ca3fa6d06f"), looks := false }, kinds := [], alts := [], laidByText := true, laidKinds := [.data, .data, .pinned], laidTests := true, laidLooks := .later }
def TextIdempotentUptoCardSaid : Prop := Claim7.holds Tryd.pinned (.plain (OpenSpec.upto textIdempotentSpec)) textIdempotentUptoCard

/-- THE SECOND FORM's CARD OF 'recordlinklaw01.TextDress'. -/
def textDressUptoCard : Claim7 := { stood := { row := textDressUptoRow, standIns := [], harness := (true, "3776b81e76abd53e4286f35b46155bc835662c8e3d7cb484d36c58ca3fa6d06f"), looks := false }, kinds := [], alts := [], laidByText := true, laidKinds := [.data, .data, .pinned], laidTests := true, laidLooks := .later }
def TextDressUptoCardSaid : Prop := Claim7.holds Tryd.pinned (.plain (OpenSpec.upto textDressSpec)) textDressUptoCard

/-- THE SECOND FORM's CARD OF 'recordlinklaw01.TextTokens'. -/
def textTokensUptoCard : Claim7 := { stood := { row := textTokensUptoRow, standIns := [], harness := (true, "3776b81e76abd53e4286f35b46155bc835662c8e3d7cb484d36c58ca3fa6d06f"), looks := false }, kinds := [], alts := [], laidByText := true, laidKinds := [.data, .data, .pinned], laidTests := true, laidLooks := .later }
def TextTokensUptoCardSaid : Prop := Claim7.holds Tryd.pinned (.plain (OpenSpec.upto textTokensSpec)) textTokensUptoCard

/-- THE SECOND FORM's CARD OF 'recordlinklaw01.TextPairs'. -/
def textPairsUptoCard : Claim7 := { stood := { row := textPairsUptoRow, standIns := [], harness := (true, "3776b81e76abd53e4286f35b46155bc835662c8e3d7cb484d36c58ca3fa6d06f"), looks := false }, kinds := [], alts := [], laidByText := true, laidKinds := [.data, .data, .pinned], laidTests := true, laidLooks := .later }
def TextPairsUptoCardSaid : Prop := Claim7.holds Tryd.pinned (.plain (OpenSpec.upto textPairsSpec)) textPairsUptoCard

/-- THE SECOND FORM's CARD OF 'recordlinklaw01.TextParts'. -/
def textPartsUptoCard : Claim7 := { stood := { row := textPartsUptoRow, standIns := [], harness := (true, "3776b81e76abd53e4286f35b46155bc835662c8e3d7cb484d36c58ca3fa6d06f"), looks := false }, kinds := [], alts := [], laidByText := true, laidKinds := [.data, .data, .pinned], laidTests := true, laidLooks := .later }
def TextPartsUptoCardSaid : Prop := Claim7.holds Tryd.pinned (.plain (OpenSpec.upto textPartsSpec)) textPartsUptoCard
end Rows
end Go.Proofs.YthkekcjgnlccdaaDoor
