/-
  DERIVED. GIVEN WITH THE SEED: THE CARDS: each row of YtblkebjfnboclaaDoorRows.lean that lists a variable, with what it lists TIED to the program's text (the seventh form; the later family's looks); each row that meets fmt, with fmt's text TOLD by the authors' own Lean function (tested against real Go, not proved from fmt's source: count such statements apart). THE CARD IS WHAT COUNTS. Prove the row's statement (the work); the ties are given (YtblkebjfnboclaaDoorTie.lean); close each card by the builder's one call (the guide's Derived/Test/ToyasCard.lean, 'card_holds'). Laid BY PROGRAM, IN A SANDBOX (cutbox-door.mjs). By AI agents, Wed Nov 11 2026. No macro, syntax, notation, axiom, sorry.
-/
import Derived.Test.YtblkebjfnboclaaDoorRows
import GoSem.ClaimSeven
namespace Go.Proofs.YtblkebjfnboclaaDoor
namespace Rows

/-- THE TIED CARD OF 'recordlinklaw06.PhoneticExact'. -/
def phoneticExactCard : Claim7 := { stood := { row := phoneticExactRow, standIns := [], harness := (true, "ecc51ee780eea6da4c8712608030d9ff9069d7da98f4672094814cfdc84a6057"), looks := false }, kinds := [], alts := [], laidByText := true, laidKinds := [.data, .pinned], laidTests := true, laidLooks := .later }
def PhoneticExactCardSaid : Prop := Claim7.holds Tryd.pinned (.plain (OpenSpec.ofChange phoneticExactSpec)) phoneticExactCard

/-- THE TIED CARD OF 'recordlinklaw06.PhoneticDoubles'. -/
def phoneticDoublesCard : Claim7 := { stood := { row := phoneticDoublesRow, standIns := [], harness := (true, "ecc51ee780eea6da4c8712608030d9ff9069d7da98f4672094814cfdc84a6057"), looks := false }, kinds := [], alts := [], laidByText := true, laidKinds := [.data, .pinned], laidTests := true, laidLooks := .later }
def PhoneticDoublesCardSaid : Prop := Claim7.holds Tryd.pinned (.plain (OpenSpec.ofChange phoneticDoublesSpec)) phoneticDoublesCard

/-- THE TIED CARD OF 'recordlinklaw06.PhoneticSilent'. -/
def phoneticSilentCard : Claim7 := { stood := { row := phoneticSilentRow, standIns := [], harness := (true, "ecc51ee780eea6da4c8712608030d9ff9069d7da98f4672094814cfdc84a6057"), looks := false }, kinds := [], alts := [], laidByText := true, laidKinds := [.data, .pinned], laidTests := true, laidLooks := .later }
def PhoneticSilentCardSaid : Prop := Claim7.holds Tryd.pinned (.plain (OpenSpec.ofChange phoneticSilentSpec)) phoneticSilentCard

/-- THE TIED CARD OF 'recordlinklaw06.PhoneticShape'. -/
def phoneticShapeCard : Claim7 := { stood := { row := phoneticShapeRow, standIns := [], harness := (true, "ecc51ee780eea6da4c8712608030d9ff9069d7da98f4672094814cfdc84a6057"), looks := false }, kinds := [], alts := [], laidByText := true, laidKinds := [.data, .pinned], laidTests := true, laidLooks := .later }
def PhoneticShapeCardSaid : Prop := Claim7.holds Tryd.pinned (.plain (OpenSpec.ofChange phoneticShapeSpec)) phoneticShapeCard

/-- THE TIED CARD OF 'recordlinklaw06.PhoneticKeys'. -/
def phoneticKeysCard : Claim7 := { stood := { row := phoneticKeysRow, standIns := [], harness := (true, "ecc51ee780eea6da4c8712608030d9ff9069d7da98f4672094814cfdc84a6057"), looks := false }, kinds := [], alts := [], laidByText := true, laidKinds := [.data, .pinned], laidTests := true, laidLooks := .later }
def PhoneticKeysCardSaid : Prop := Claim7.holds Tryd.pinned (.plain (OpenSpec.ofChange phoneticKeysSpec)) phoneticKeysCard

/-- THE SECOND FORM's CARD OF 'recordlinklaw06.PhoneticExact'. -/
def phoneticExactUptoCard : Claim7 := { stood := { row := phoneticExactUptoRow, standIns := [], harness := (true, "ecc51ee780eea6da4c8712608030d9ff9069d7da98f4672094814cfdc84a6057"), looks := false }, kinds := [], alts := [], laidByText := true, laidKinds := [.data, .pinned], laidTests := true, laidLooks := .later }
def PhoneticExactUptoCardSaid : Prop := Claim7.holds Tryd.pinned (.plain (OpenSpec.upto phoneticExactSpec)) phoneticExactUptoCard

/-- THE SECOND FORM's CARD OF 'recordlinklaw06.PhoneticDoubles'. -/
def phoneticDoublesUptoCard : Claim7 := { stood := { row := phoneticDoublesUptoRow, standIns := [], harness := (true, "ecc51ee780eea6da4c8712608030d9ff9069d7da98f4672094814cfdc84a6057"), looks := false }, kinds := [], alts := [], laidByText := true, laidKinds := [.data, .pinned], laidTests := true, laidLooks := .later }
def PhoneticDoublesUptoCardSaid : Prop := Claim7.holds Tryd.pinned (.plain (OpenSpec.upto phoneticDoublesSpec)) phoneticDoublesUptoCard

/-- THE SECOND FORM's CARD OF 'recordlinklaw06.PhoneticSilent'. -/
def phoneticSilentUptoCard : Claim7 := { stood := { row := phoneticSilentUptoRow, standIns := [], harness := (true, "ecc51ee780eea6da4c8712608030d9ff9069d7da98f4672094814cfdc84a6057"), looks := false }, kinds := [], alts := [], laidByText := true, laidKinds := [.data, .pinned], laidTests := true, laidLooks := .later }
def PhoneticSilentUptoCardSaid : Prop := Claim7.holds Tryd.pinned (.plain (OpenSpec.upto phoneticSilentSpec)) phoneticSilentUptoCard

/-- THE SECOND FORM's CARD OF 'recordlinklaw06.PhoneticShape'. -/
def phoneticShapeUptoCard : Claim7 := { stood := { row := phoneticShapeUptoRow, standIns := [], harness := (true, "ecc51ee780eea6da4c8712608030d9ff9069d7da98f4672094814cfdc84a6057"), looks := false }, kinds := [], alts := [], laidByText := true, laidKinds := [.data, .pinned], laidTests := true, laidLooks := .later }
def PhoneticShapeUptoCardSaid : Prop := Claim7.holds Tryd.pinned (.plain (OpenSpec.upto phoneticShapeSpec)) phoneticShapeUptoCard

/-- THE SECOND FORM's CARD OF 'recordlinklaw06.PhoneticKeys'. -/
def phoneticKeysUptoCard : Claim7 := { stood := { row := phoneticKeysUptoRow, standIns := [], harness := (true, "ecc51ee780eea6da4c8712608030d9ff9069d7da98f4672094814cfdc84a6057"), looks := false }, kinds := [], alts := [], laidByText := true, laidKinds := [.data, .pinned], laidTests := true, laidLooks := .later }
def PhoneticKeysUptoCardSaid : Prop := Claim7.holds Tryd.pinned (.plain (OpenSpec.upto phoneticKeysSpec)) phoneticKeysUptoCard
end Rows
end Go.Proofs.YtblkebjfnboclaaDoor
