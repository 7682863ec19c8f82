/-
  DERIVED. GIVEN WITH THE SEED: THE CARDS: each row of YtfdlmneahanboaaDoorRows.lean that lists a variable, with what it lists TIED to the program's text (the seventh form; the later family's looks); each row that meets fmt, with fmt's text TOLD by the authors' own Lean function (tested against real Go, not proved from fmt's source: count such statements apart). THE CARD IS WHAT COUNTS. Prove the row's statement (the work); the ties are given (YtfdlmneahanboaaDoorTie.lean); close each card by the builder's one call (the guide's Derived/Test/ToyasCard.lean, 'card_holds'). Laid BY PROGRAM, IN A SANDBOX (cutbox-door.mjs). By AI agents, Wed Nov 11 2026. No macro, syntax, notation, axiom, sorry.
-/
import Derived.Test.YtfdlmneahanboaaDoorRows
import GoSem.ClaimSeven
namespace Go.Proofs.YtfdlmneahanboaaDoor
namespace Rows

/-- THE TIED CARD OF 'recordlinklaw02.NameExact'. -/
def nameExactCard : Claim7 := { stood := { row := nameExactRow, standIns := [], harness := (true, "d69057e78b0b0e21a2d0c8a00ad624137182fa66eccfdc2b1dd2cc71c1045ee7"), looks := false }, kinds := [], alts := [], laidByText := true, laidKinds := [.data, .data, .pinned], laidTests := true, laidLooks := .later }
def NameExactCardSaid : Prop := Claim7.holds Tryd.pinned (.plain (OpenSpec.ofChange nameExactSpec)) nameExactCard

/-- THE TIED CARD OF 'recordlinklaw02.NameIdempotent'. -/
def nameIdempotentCard : Claim7 := { stood := { row := nameIdempotentRow, standIns := [], harness := (true, "d69057e78b0b0e21a2d0c8a00ad624137182fa66eccfdc2b1dd2cc71c1045ee7"), looks := false }, kinds := [], alts := [], laidByText := true, laidKinds := [.data, .data, .pinned], laidTests := true, laidLooks := .later }
def NameIdempotentCardSaid : Prop := Claim7.holds Tryd.pinned (.plain (OpenSpec.ofChange nameIdempotentSpec)) nameIdempotentCard

/-- THE TIED CARD OF 'recordlinklaw02.NameExtras'. -/
def nameExtrasCard : Claim7 := { stood := { row := nameExtrasRow, standIns := [], harness := (true, "d69057e78b0b0e21a2d0c8a00ad624137182fa66eccfdc2b1dd2cc71c1045ee7"), looks := false }, kinds := [], alts := [], laidByText := true, laidKinds := [.data, .data, .pinned], laidTests := true, laidLooks := .later }
def NameExtrasCardSaid : Prop := Claim7.holds Tryd.pinned (.plain (OpenSpec.ofChange nameExtrasSpec)) nameExtrasCard

/-- THE TIED CARD OF 'recordlinklaw02.NameNicknames'. -/
def nameNicknamesCard : Claim7 := { stood := { row := nameNicknamesRow, standIns := [], harness := (true, "d69057e78b0b0e21a2d0c8a00ad624137182fa66eccfdc2b1dd2cc71c1045ee7"), looks := false }, kinds := [], alts := [], laidByText := true, laidKinds := [.data, .data, .pinned], laidTests := true, laidLooks := .later }
def NameNicknamesCardSaid : Prop := Claim7.holds Tryd.pinned (.plain (OpenSpec.ofChange nameNicknamesSpec)) nameNicknamesCard

/-- THE TIED CARD OF 'recordlinklaw02.NameOrder'. -/
def nameOrderCard : Claim7 := { stood := { row := nameOrderRow, standIns := [], harness := (true, "d69057e78b0b0e21a2d0c8a00ad624137182fa66eccfdc2b1dd2cc71c1045ee7"), looks := false }, kinds := [], alts := [], laidByText := true, laidKinds := [.data, .data, .pinned], laidTests := true, laidLooks := .later }
def NameOrderCardSaid : Prop := Claim7.holds Tryd.pinned (.plain (OpenSpec.ofChange nameOrderSpec)) nameOrderCard

/-- THE TIED CARD OF 'recordlinklaw02.NameChecks'. -/
def nameChecksCard : Claim7 := { stood := { row := nameChecksRow, standIns := [], harness := (true, "d69057e78b0b0e21a2d0c8a00ad624137182fa66eccfdc2b1dd2cc71c1045ee7"), looks := false }, kinds := [], alts := [], laidByText := true, laidKinds := [.data, .data, .pinned], laidTests := true, laidLooks := .later }
def NameChecksCardSaid : Prop := Claim7.holds Tryd.pinned (.plain (OpenSpec.ofChange nameChecksSpec)) nameChecksCard

/-- THE SECOND FORM's CARD OF 'recordlinklaw02.NameExact'. -/
def nameExactUptoCard : Claim7 := { stood := { row := nameExactUptoRow, standIns := [], harness := (true, "d69057e78b0b0e21a2d0c8a00ad624137182fa66eccfdc2b1dd2cc71c1045ee7"), looks := false }, kinds := [], alts := [], laidByText := true, laidKinds := [.data, .data, .pinned], laidTests := true, laidLooks := .later }
def NameExactUptoCardSaid : Prop := Claim7.holds Tryd.pinned (.plain (OpenSpec.upto nameExactSpec)) nameExactUptoCard

/-- THE SECOND FORM's CARD OF 'recordlinklaw02.NameIdempotent'. -/
def nameIdempotentUptoCard : Claim7 := { stood := { row := nameIdempotentUptoRow, standIns := [], harness := (true, "d69057e78b0b0e21a2d0c8a00ad624137182fa66eccfdc2b1dd2cc71c1045ee7"), looks := false }, kinds := [], alts := [], laidByText := true, laidKinds := [.data, .data, .pinned], laidTests := true, laidLooks := .later }
def NameIdempotentUptoCardSaid : Prop := Claim7.holds Tryd.pinned (.plain (OpenSpec.upto nameIdempotentSpec)) nameIdempotentUptoCard

/-- THE SECOND FORM's CARD OF 'recordlinklaw02.NameExtras'. -/
def nameExtrasUptoCard : Claim7 := { stood := { row := nameExtrasUptoRow, standIns := [], harness := (true, "d69057e78b0b0e21a2d0c8a00ad624137182fa66eccfdc2b1dd2cc71c1045ee7"), looks := false }, kinds := [], alts := [], laidByText := true, laidKinds := [.data, .data, .pinned], laidTests := true, laidLooks := .later }
def NameExtrasUptoCardSaid : Prop := Claim7.holds Tryd.pinned (.plain (OpenSpec.upto nameExtrasSpec)) nameExtrasUptoCard

/-- THE SECOND FORM's CARD OF 'recordlinklaw02.NameNicknames'. -/
def nameNicknamesUptoCard : Claim7 := { stood := { row := nameNicknamesUptoRow, standIns := [], harness := (true, "d69057e78b0b0e21a2d0c8a00ad624137182fa66eccfdc2b1dd2cc71c1045ee7"), looks := false }, kinds := [], alts := [], laidByText := true, laidKinds := [.data, .data, .pinned], laidTests := true, laidLooks := .later }
def NameNicknamesUptoCardSaid : Prop := Claim7.holds Tryd.pinned (.plain (OpenSpec.upto nameNicknamesSpec)) nameNicknamesUptoCard

/-- THE SECOND FORM's CARD OF 'recordlinklaw02.NameOrder'. -/
def nameOrderUptoCard : Claim7 := { stood := { row := nameOrderUptoRow, standIns := [], harness := (true, "d69057e78b0b0e21a2d0c8a00ad624137182fa66eccfdc2b1dd2cc71c1045ee7"), looks := false }, kinds := [], alts := [], laidByText := true, laidKinds := [.data, .data, .pinned], laidTests := true, laidLooks := .later }
def NameOrderUptoCardSaid : Prop := Claim7.holds Tryd.pinned (.plain (OpenSpec.upto nameOrderSpec)) nameOrderUptoCard

/-- THE SECOND FORM's CARD OF 'recordlinklaw02.NameChecks'. -/
def nameChecksUptoCard : Claim7 := { stood := { row := nameChecksUptoRow, standIns := [], harness := (true, "d69057e78b0b0e21a2d0c8a00ad624137182fa66eccfdc2b1dd2cc71c1045ee7"), looks := false }, kinds := [], alts := [], laidByText := true, laidKinds := [.data, .data, .pinned], laidTests := true, laidLooks := .later }
def NameChecksUptoCardSaid : Prop := Claim7.holds Tryd.pinned (.plain (OpenSpec.upto nameChecksSpec)) nameChecksUptoCard
end Rows
end Go.Proofs.YtfdlmneahanboaaDoor
