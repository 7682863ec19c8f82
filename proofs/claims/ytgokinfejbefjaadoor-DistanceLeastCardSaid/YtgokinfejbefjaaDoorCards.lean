/-
  DERIVED. GIVEN WITH THE SEED: THE CARDS: each row of YtgokinfejbefjaaDoorRows.lean that lists a variable, with what it lists TIED to the program's text (the seventh form; the later family's looks); each row that meets fmt, with fmt's text TOLD by the authors' own Lean function (tested against real Go, not proved from fmt's source: count such statements apart). THE CARD IS WHAT COUNTS. Prove the row's statement (the work); the ties are given (YtgokinfejbefjaaDoorTie.lean); close each card by the builder's one call (the guide's Derived/Test/ToyasCard.lean, 'card_holds'). Laid BY PROGRAM, IN A SANDBOX (cutbox-door.mjs). By AI agents, Wed Nov 11 2026. No macro, syntax, notation, axiom, sorry.
-/
import Derived.Test.YtgokinfejbefjaaDoorRows
import GoSem.ClaimSeven
namespace Go.Proofs.YtgokinfejbefjaaDoor
namespace Rows

/-- THE TIED CARD OF 'recordlinklaw07.DistanceExact'. -/
def distanceExactCard : Claim7 := { stood := { row := distanceExactRow, standIns := [], harness := (true, "ce0dcada8676bcab2841eac3c4d9b67252c6a9c89d645c9d5b2b7fa9dca80de6"), looks := false }, kinds := [], alts := [], laidByText := true, laidKinds := [.data], laidTests := true, laidLooks := .later }
def DistanceExactCardSaid : Prop := Claim7.holds Tryd.pinned (.plain (OpenSpec.ofChange distanceExactSpec)) distanceExactCard

/-- THE TIED CARD OF 'recordlinklaw07.DistanceLeast'. -/
def distanceLeastCard : Claim7 := { stood := { row := distanceLeastRow, standIns := [], harness := (true, "ce0dcada8676bcab2841eac3c4d9b67252c6a9c89d645c9d5b2b7fa9dca80de6"), looks := false }, kinds := [], alts := [], laidByText := true, laidKinds := [.data], laidTests := true, laidLooks := .later }
def DistanceLeastCardSaid : Prop := Claim7.holds Tryd.pinned (.plain (OpenSpec.ofChange distanceLeastSpec)) distanceLeastCard

/-- THE TIED CARD OF 'recordlinklaw07.DistanceScript'. -/
def distanceScriptCard : Claim7 := { stood := { row := distanceScriptRow, standIns := [], harness := (true, "ce0dcada8676bcab2841eac3c4d9b67252c6a9c89d645c9d5b2b7fa9dca80de6"), looks := false }, kinds := [], alts := [], laidByText := true, laidKinds := [.data], laidTests := true, laidLooks := .later }
def DistanceScriptCardSaid : Prop := Claim7.holds Tryd.pinned (.plain (OpenSpec.ofChange distanceScriptSpec)) distanceScriptCard

/-- THE TIED CARD OF 'recordlinklaw07.DistanceBounds'. -/
def distanceBoundsCard : Claim7 := { stood := { row := distanceBoundsRow, standIns := [], harness := (true, "ce0dcada8676bcab2841eac3c4d9b67252c6a9c89d645c9d5b2b7fa9dca80de6"), looks := false }, kinds := [], alts := [], laidByText := true, laidKinds := [.data], laidTests := true, laidLooks := .later }
def DistanceBoundsCardSaid : Prop := Claim7.holds Tryd.pinned (.plain (OpenSpec.ofChange distanceBoundsSpec)) distanceBoundsCard

/-- THE TIED CARD OF 'recordlinklaw07.DistanceEnds'. -/
def distanceEndsCard : Claim7 := { stood := { row := distanceEndsRow, standIns := [], harness := (true, "ce0dcada8676bcab2841eac3c4d9b67252c6a9c89d645c9d5b2b7fa9dca80de6"), looks := false }, kinds := [], alts := [], laidByText := true, laidKinds := [.data], laidTests := true, laidLooks := .later }
def DistanceEndsCardSaid : Prop := Claim7.holds Tryd.pinned (.plain (OpenSpec.ofChange distanceEndsSpec)) distanceEndsCard

/-- THE SECOND FORM's CARD OF 'recordlinklaw07.DistanceExact'. -/
def distanceExactUptoCard : Claim7 := { stood := { row := distanceExactUptoRow, standIns := [], harness := (true, "ce0dcada8676bcab2841eac3c4d9b67252c6a9c89d645c9d5b2b7fa9dca80de6"), looks := false }, kinds := [], alts := [], laidByText := true, laidKinds := [.data], laidTests := true, laidLooks := .later }
def DistanceExactUptoCardSaid : Prop := Claim7.holds Tryd.pinned (.plain (OpenSpec.upto distanceExactSpec)) distanceExactUptoCard

/-- THE SECOND FORM's CARD OF 'recordlinklaw07.DistanceLeast'. -/
def distanceLeastUptoCard : Claim7 := { stood := { row := distanceLeastUptoRow, standIns := [], harness := (true, "ce0dcada8676bcab2841eac3c4d9b67252c6a9c89d645c9d5b2b7fa9dca80de6"), looks := false }, kinds := [], alts := [], laidByText := true, laidKinds := [.data], laidTests := true, laidLooks := .later }
def DistanceLeastUptoCardSaid : Prop := Claim7.holds Tryd.pinned (.plain (OpenSpec.upto distanceLeastSpec)) distanceLeastUptoCard

/-- THE SECOND FORM's CARD OF 'recordlinklaw07.DistanceScript'. -/
def distanceScriptUptoCard : Claim7 := { stood := { row := distanceScriptUptoRow, standIns := [], harness := (true, "ce0dcada8676bcab2841eac3c4d9b67252c6a9c89d645c9d5b2b7fa9dca80de6"), looks := false }, kinds := [], alts := [], laidByText := true, laidKinds := [.data], laidTests := true, laidLooks := .later }
def DistanceScriptUptoCardSaid : Prop := Claim7.holds Tryd.pinned (.plain (OpenSpec.upto distanceScriptSpec)) distanceScriptUptoCard

/-- THE SECOND FORM's CARD OF 'recordlinklaw07.DistanceBounds'. -/
def distanceBoundsUptoCard : Claim7 := { stood := { row := distanceBoundsUptoRow, standIns := [], harness := (true, "ce0dcada8676bcab2841eac3c4d9b67252c6a9c89d645c9d5b2b7fa9dca80de6"), looks := false }, kinds := [], alts := [], laidByText := true, laidKinds := [.data], laidTests := true, laidLooks := .later }
def DistanceBoundsUptoCardSaid : Prop := Claim7.holds Tryd.pinned (.plain (OpenSpec.upto distanceBoundsSpec)) distanceBoundsUptoCard

/-- THE SECOND FORM's CARD OF 'recordlinklaw07.DistanceEnds'. -/
def distanceEndsUptoCard : Claim7 := { stood := { row := distanceEndsUptoRow, standIns := [], harness := (true, "ce0dcada8676bcab2841eac3c4d9b67252c6a9c89d645c9d5b2b7fa9dca80de6"), looks := false }, kinds := [], alts := [], laidByText := true, laidKinds := [.data], laidTests := true, laidLooks := .later }
def DistanceEndsUptoCardSaid : Prop := Claim7.holds Tryd.pinned (.plain (OpenSpec.upto distanceEndsSpec)) distanceEndsUptoCard
end Rows
end Go.Proofs.YtgokinfejbefjaaDoor
