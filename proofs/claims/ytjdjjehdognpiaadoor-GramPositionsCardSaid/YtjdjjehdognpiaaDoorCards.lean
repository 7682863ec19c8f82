/-
  DERIVED. GIVEN WITH THE SEED: THE CARDS: each row of YtjdjjehdognpiaaDoorRows.lean that lists a variable, with what it lists TIED to the program's text (the seventh form; the later family's looks); each row that meets fmt, with fmt's text TOLD by the authors' own Lean function (tested against real Go, not proved from fmt's source: count such statements apart). THE CARD IS WHAT COUNTS. Prove the row's statement (the work); the ties are given (YtjdjjehdognpiaaDoorTie.lean); close each card by the builder's one call (the guide's Derived/Test/ToyasCard.lean, 'card_holds'). Laid BY PROGRAM, IN A SANDBOX (cutbox-door.mjs). By AI agents, Wed Nov 11 2026. No macro, syntax, notation, axiom, sorry.
-/
import Derived.Test.YtjdjjehdognpiaaDoorRows
import GoSem.ClaimSeven
namespace Go.Proofs.YtjdjjehdognpiaaDoor
namespace Rows

/-- THE TIED CARD OF 'recordlinklaw05.GramExact'. -/
def gramExactCard : Claim7 := { stood := { row := gramExactRow, standIns := [], harness := (true, "dbde51b21d0f63bb0a1e2e3d2987e37ac7ab7448f06f3eac61304f3a5646c179"), looks := false }, kinds := [], alts := [], laidByText := true, laidKinds := [.data, .pinned], laidTests := true, laidLooks := .later }
def GramExactCardSaid : Prop := Claim7.holds Tryd.pinned (.plain (OpenSpec.ofChange gramExactSpec)) gramExactCard

/-- THE TIED CARD OF 'recordlinklaw05.GramTokens'. -/
def gramTokensCard : Claim7 := { stood := { row := gramTokensRow, standIns := [], harness := (true, "dbde51b21d0f63bb0a1e2e3d2987e37ac7ab7448f06f3eac61304f3a5646c179"), looks := false }, kinds := [], alts := [], laidByText := true, laidKinds := [.data, .pinned], laidTests := true, laidLooks := .later }
def GramTokensCardSaid : Prop := Claim7.holds Tryd.pinned (.plain (OpenSpec.ofChange gramTokensSpec)) gramTokensCard

/-- THE TIED CARD OF 'recordlinklaw05.GramChange'. -/
def gramChangeCard : Claim7 := { stood := { row := gramChangeRow, standIns := [], harness := (true, "dbde51b21d0f63bb0a1e2e3d2987e37ac7ab7448f06f3eac61304f3a5646c179"), looks := false }, kinds := [], alts := [], laidByText := true, laidKinds := [.data, .pinned], laidTests := true, laidLooks := .later }
def GramChangeCardSaid : Prop := Claim7.holds Tryd.pinned (.plain (OpenSpec.ofChange gramChangeSpec)) gramChangeCard

/-- THE TIED CARD OF 'recordlinklaw05.GramDice'. -/
def gramDiceCard : Claim7 := { stood := { row := gramDiceRow, standIns := [], harness := (true, "dbde51b21d0f63bb0a1e2e3d2987e37ac7ab7448f06f3eac61304f3a5646c179"), looks := false }, kinds := [], alts := [], laidByText := true, laidKinds := [.data, .pinned], laidTests := true, laidLooks := .later }
def GramDiceCardSaid : Prop := Claim7.holds Tryd.pinned (.plain (OpenSpec.ofChange gramDiceSpec)) gramDiceCard

/-- THE TIED CARD OF 'recordlinklaw05.GramPositions'. -/
def gramPositionsCard : Claim7 := { stood := { row := gramPositionsRow, standIns := [], harness := (true, "dbde51b21d0f63bb0a1e2e3d2987e37ac7ab7448f06f3eac61304f3a5646c179"), looks := false }, kinds := [], alts := [], laidByText := true, laidKinds := [.data, .pinned], laidTests := true, laidLooks := .later }
def GramPositionsCardSaid : Prop := Claim7.holds Tryd.pinned (.plain (OpenSpec.ofChange gramPositionsSpec)) gramPositionsCard

/-- THE SECOND FORM's CARD OF 'recordlinklaw05.GramExact'. -/
def gramExactUptoCard : Claim7 := { stood := { row := gramExactUptoRow, standIns := [], harness := (true, "dbde51b21d0f63bb0a1e2e3d2987e37ac7ab7448f06f3eac61304f3a5646c179"), looks := false }, kinds := [], alts := [], laidByText := true, laidKinds := [.data, .pinned], laidTests := true, laidLooks := .later }
def GramExactUptoCardSaid : Prop := Claim7.holds Tryd.pinned (.plain (OpenSpec.upto gramExactSpec)) gramExactUptoCard

/-- THE SECOND FORM's CARD OF 'recordlinklaw05.GramTokens'. -/
def gramTokensUptoCard : Claim7 := { stood := { row := gramTokensUptoRow, standIns := [], harness := (true, "dbde51b21d0f63bb0a1e2e3d2987e37ac7ab7448f06f3eac61304f3a5646c179"), looks := false }, kinds := [], alts := [], laidByText := true, laidKinds := [.data, .pinned], laidTests := true, laidLooks := .later }
def GramTokensUptoCardSaid : Prop := Claim7.holds Tryd.pinned (.plain (OpenSpec.upto gramTokensSpec)) gramTokensUptoCard

/-- THE SECOND FORM's CARD OF 'recordlinklaw05.GramChange'. -/
def gramChangeUptoCard : Claim7 := { stood := { row := gramChangeUptoRow, standIns := [], harness := (true, "dbde51b21d0f63bb0a1e2e3d2987e37ac7ab7448f06f3eac61304f3a5646c179"), looks := false }, kinds := [], alts := [], laidByText := true, laidKinds := [.data, .pinned], laidTests := true, laidLooks := .later }
def GramChangeUptoCardSaid : Prop := Claim7.holds Tryd.pinned (.plain (OpenSpec.upto gramChangeSpec)) gramChangeUptoCard

/-- THE SECOND FORM's CARD OF 'recordlinklaw05.GramDice'. -/
def gramDiceUptoCard : Claim7 := { stood := { row := gramDiceUptoRow, standIns := [], harness := (true, "dbde51b21d0f63bb0a1e2e3d2987e37ac7ab7448f06f3eac61304f3a5646c179"), looks := false }, kinds := [], alts := [], laidByText := true, laidKinds := [.data, .pinned], laidTests := true, laidLooks := .later }
def GramDiceUptoCardSaid : Prop := Claim7.holds Tryd.pinned (.plain (OpenSpec.upto gramDiceSpec)) gramDiceUptoCard

/-- THE SECOND FORM's CARD OF 'recordlinklaw05.GramPositions'. -/
def gramPositionsUptoCard : Claim7 := { stood := { row := gramPositionsUptoRow, standIns := [], harness := (true, "dbde51b21d0f63bb0a1e2e3d2987e37ac7ab7448f06f3eac61304f3a5646c179"), looks := false }, kinds := [], alts := [], laidByText := true, laidKinds := [.data, .pinned], laidTests := true, laidLooks := .later }
def GramPositionsUptoCardSaid : Prop := Claim7.holds Tryd.pinned (.plain (OpenSpec.upto gramPositionsSpec)) gramPositionsUptoCard
end Rows
end Go.Proofs.YtjdjjehdognpiaaDoor
