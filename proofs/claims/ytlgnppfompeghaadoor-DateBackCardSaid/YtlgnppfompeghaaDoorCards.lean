/-
  DERIVED. GIVEN WITH THE SEED: THE CARDS: each row of YtlgnppfompeghaaDoorRows.lean that lists a variable, with what it lists TIED to the program's text (the seventh form; the later family's looks); each row that meets fmt, with fmt's text TOLD by the authors' own Lean function (tested against real Go, not proved from fmt's source: count such statements apart). THE CARD IS WHAT COUNTS. Prove the row's statement (the work); the ties are given (YtlgnppfompeghaaDoorTie.lean); close each card by the builder's one call (the guide's Derived/Test/ToyasCard.lean, 'card_holds'). Laid BY PROGRAM, IN A SANDBOX (cutbox-door.mjs). By AI agents, Wed Nov 11 2026. No macro, syntax, notation, axiom, sorry.
-/
import Derived.Test.YtlgnppfompeghaaDoorRows
import GoSem.ClaimSeven
namespace Go.Proofs.YtlgnppfompeghaaDoor
namespace Rows

/-- THE TIED CARD OF 'recordlinklaw03.DateExact'. -/
def dateExactCard : Claim7 := { stood := { row := dateExactRow, standIns := [], harness := (true, "d70d1201f35774005b61979a5bc3244617fc5a2487df03591c2d1428815eef20"), looks := false }, kinds := [], alts := [], laidByText := true, laidKinds := [.data, .data, .data, .data], laidTests := true, laidLooks := .later }
def DateExactCardSaid : Prop := Claim7.holds Tryd.pinned (.plain (OpenSpec.ofChange dateExactSpec)) dateExactCard

/-- THE TIED CARD OF 'recordlinklaw03.DateBack'. -/
def dateBackCard : Claim7 := { stood := { row := dateBackRow, standIns := [], harness := (true, "d70d1201f35774005b61979a5bc3244617fc5a2487df03591c2d1428815eef20"), looks := false }, kinds := [], alts := [], laidByText := true, laidKinds := [.data, .data, .data, .data], laidTests := true, laidLooks := .later }
def DateBackCardSaid : Prop := Claim7.holds Tryd.pinned (.plain (OpenSpec.ofChange dateBackSpec)) dateBackCard

/-- THE TIED CARD OF 'recordlinklaw03.DateForms'. -/
def dateFormsCard : Claim7 := { stood := { row := dateFormsRow, standIns := [], harness := (true, "d70d1201f35774005b61979a5bc3244617fc5a2487df03591c2d1428815eef20"), looks := false }, kinds := [], alts := [], laidByText := true, laidKinds := [.data, .data, .data, .data], laidTests := true, laidLooks := .later }
def DateFormsCardSaid : Prop := Claim7.holds Tryd.pinned (.plain (OpenSpec.ofChange dateFormsSpec)) dateFormsCard

/-- THE TIED CARD OF 'recordlinklaw03.DateAscends'. -/
def dateAscendsCard : Claim7 := { stood := { row := dateAscendsRow, standIns := [], harness := (true, "d70d1201f35774005b61979a5bc3244617fc5a2487df03591c2d1428815eef20"), looks := false }, kinds := [], alts := [], laidByText := true, laidKinds := [.data, .data, .data, .data], laidTests := true, laidLooks := .later }
def DateAscendsCardSaid : Prop := Claim7.holds Tryd.pinned (.plain (OpenSpec.ofChange dateAscendsSpec)) dateAscendsCard

/-- THE TIED CARD OF 'recordlinklaw03.DateAges'. -/
def dateAgesCard : Claim7 := { stood := { row := dateAgesRow, standIns := [], harness := (true, "d70d1201f35774005b61979a5bc3244617fc5a2487df03591c2d1428815eef20"), looks := false }, kinds := [], alts := [], laidByText := true, laidKinds := [.data, .data, .data, .data], laidTests := true, laidLooks := .later }
def DateAgesCardSaid : Prop := Claim7.holds Tryd.pinned (.plain (OpenSpec.ofChange dateAgesSpec)) dateAgesCard

/-- THE TIED CARD OF 'recordlinklaw03.DateSwaps'. -/
def dateSwapsCard : Claim7 := { stood := { row := dateSwapsRow, standIns := [], harness := (true, "d70d1201f35774005b61979a5bc3244617fc5a2487df03591c2d1428815eef20"), looks := false }, kinds := [], alts := [], laidByText := true, laidKinds := [.data, .data, .data, .data], laidTests := true, laidLooks := .later }
def DateSwapsCardSaid : Prop := Claim7.holds Tryd.pinned (.plain (OpenSpec.ofChange dateSwapsSpec)) dateSwapsCard

/-- THE SECOND FORM's CARD OF 'recordlinklaw03.DateExact'. -/
def dateExactUptoCard : Claim7 := { stood := { row := dateExactUptoRow, standIns := [], harness := (true, "d70d1201f35774005b61979a5bc3244617fc5a2487df03591c2d1428815eef20"), looks := false }, kinds := [], alts := [], laidByText := true, laidKinds := [.data, .data, .data, .data], laidTests := true, laidLooks := .later }
def DateExactUptoCardSaid : Prop := Claim7.holds Tryd.pinned (.plain (OpenSpec.upto dateExactSpec)) dateExactUptoCard

/-- THE SECOND FORM's CARD OF 'recordlinklaw03.DateBack'. -/
def dateBackUptoCard : Claim7 := { stood := { row := dateBackUptoRow, standIns := [], harness := (true, "d70d1201f35774005b61979a5bc3244617fc5a2487df03591c2d1428815eef20"), looks := false }, kinds := [], alts := [], laidByText := true, laidKinds := [.data, .data, .data, .data], laidTests := true, laidLooks := .later }
def DateBackUptoCardSaid : Prop := Claim7.holds Tryd.pinned (.plain (OpenSpec.upto dateBackSpec)) dateBackUptoCard

/-- THE SECOND FORM's CARD OF 'recordlinklaw03.DateForms'. -/
def dateFormsUptoCard : Claim7 := { stood := { row := dateFormsUptoRow, standIns := [], harness := (true, "d70d1201f35774005b61979a5bc3244617fc5a2487df03591c2d1428815eef20"), looks := false }, kinds := [], alts := [], laidByText := true, laidKinds := [.data, .data, .data, .data], laidTests := true, laidLooks := .later }
def DateFormsUptoCardSaid : Prop := Claim7.holds Tryd.pinned (.plain (OpenSpec.upto dateFormsSpec)) dateFormsUptoCard

/-- THE SECOND FORM's CARD OF 'recordlinklaw03.DateAscends'. -/
def dateAscendsUptoCard : Claim7 := { stood := { row := dateAscendsUptoRow, standIns := [], harness := (true, "d70d1201f35774005b61979a5bc3244617fc5a2487df03591c2d1428815eef20"), looks := false }, kinds := [], alts := [], laidByText := true, laidKinds := [.data, .data, .data, .data], laidTests := true, laidLooks := .later }
def DateAscendsUptoCardSaid : Prop := Claim7.holds Tryd.pinned (.plain (OpenSpec.upto dateAscendsSpec)) dateAscendsUptoCard

/-- THE SECOND FORM's CARD OF 'recordlinklaw03.DateAges'. -/
def dateAgesUptoCard : Claim7 := { stood := { row := dateAgesUptoRow, standIns := [], harness := (true, "d70d1201f35774005b61979a5bc3244617fc5a2487df03591c2d1428815eef20"), looks := false }, kinds := [], alts := [], laidByText := true, laidKinds := [.data, .data, .data, .data], laidTests := true, laidLooks := .later }
def DateAgesUptoCardSaid : Prop := Claim7.holds Tryd.pinned (.plain (OpenSpec.upto dateAgesSpec)) dateAgesUptoCard

/-- THE SECOND FORM's CARD OF 'recordlinklaw03.DateSwaps'. -/
def dateSwapsUptoCard : Claim7 := { stood := { row := dateSwapsUptoRow, standIns := [], harness := (true, "d70d1201f35774005b61979a5bc3244617fc5a2487df03591c2d1428815eef20"), looks := false }, kinds := [], alts := [], laidByText := true, laidKinds := [.data, .data, .data, .data], laidTests := true, laidLooks := .later }
def DateSwapsUptoCardSaid : Prop := Claim7.holds Tryd.pinned (.plain (OpenSpec.upto dateSwapsSpec)) dateSwapsUptoCard
end Rows
end Go.Proofs.YtlgnppfompeghaaDoor
