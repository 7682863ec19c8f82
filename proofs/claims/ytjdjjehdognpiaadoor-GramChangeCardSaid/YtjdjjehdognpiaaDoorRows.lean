/-
  NARROWER THAN 'FOR EVERY INPUT', by the rows' own cells (each row's printed sentence says how): GramExact: laid · GramTokens: laid · GramChange: laid · GramDice: laid · GramPositions: laid.
  DERIVED. THE GIVEN ROWS OF THIS SEAT. 5 by the template 'for every input the law returns true; each argument reads behind the call as it read before'; 0 by the template 'total and deterministic' (their statements: YtjdjjehdognpiaaDoorTotals.lean).
  GIVEN WITH THE SEED: the statements are not yours to turn. If you find one false, say at which input.
  Laid BY PROGRAM, IN A SANDBOX (cutbox-rows.mjs): the forced cells as the released guide's own fill.sh prints them over the translation 4aacddfcda01c139… (all of the seat's roots in one cut). By AI agents, Wed Nov 11 2026. No macro, syntax, notation, axiom, sorry.
-/
import Derived.Test.YtjdjjehdognpiaaDoorChecked
import GoSem.PinnedTables
import GoSem.Claim
import GoSem.ClaimJoined
import GoSem.ClaimMapViews
import Derived.JoinedTies
import Derived.KernelRfl
namespace Go.Proofs.YtjdjjehdognpiaaDoor
/- THE CELL 'sum', in the pinned program and in every row, IS THE sha256 OF THE DUMP (.gsa) THAT YtjdjjehdognpiaaDoorProg.lean LOADS. Nothing in Lean hashes anything: it is a label: what it is worth is what the hold of that sum in a sandbox is worth. -/
noncomputable def Tryd.pinned : Pinned := { name := "ytjdjjehdognpiaadoor", sum := "4aacddfcda01c13953979dcc209c526fb3cdceee1aba9a48351fe4d0aaa4c6bd", checked := Tryd.checked }
namespace Rows
def none {H : Type} : Left H := { results := [], args := [] }

/- WHAT THE LISTED PACKAGE-LEVEL VARIABLES READ AS WHEN THE CALL BEGINS. Each datum BY PROGRAM (the guide's laid-datum.mjs) off the statement by which the dump's own 'gosem.cut.vars' lays the variable. In a bare row this is a premise. The card (YtjdjjehdognpiaaDoorCards.lean) ties it to the program's text. -/
def laid_unicode_utf8_acceptRanges {H : Type} : DataW H := .agg [.agg [.lit (.int .u8 128), .lit (.int .u8 191)], .agg [.lit (.int .u8 160), .lit (.int .u8 191)], .agg [.lit (.int .u8 128), .lit (.int .u8 159)], .agg [.lit (.int .u8 144), .lit (.int .u8 191)], .agg [.lit (.int .u8 128), .lit (.int .u8 143)], .agg [.lit (.int .u8 0), .lit (.int .u8 0)], .agg [.lit (.int .u8 0), .lit (.int .u8 0)], .agg [.lit (.int .u8 0), .lit (.int .u8 0)], .agg [.lit (.int .u8 0), .lit (.int .u8 0)], .agg [.lit (.int .u8 0), .lit (.int .u8 0)], .agg [.lit (.int .u8 0), .lit (.int .u8 0)], .agg [.lit (.int .u8 0), .lit (.int .u8 0)], .agg [.lit (.int .u8 0), .lit (.int .u8 0)], .agg [.lit (.int .u8 0), .lit (.int .u8 0)], .agg [.lit (.int .u8 0), .lit (.int .u8 0)], .agg [.lit (.int .u8 0), .lit (.int .u8 0)]]
/-- One of Go's own tables, pinned by name: the form's constant. -/
def laid_unicode_utf8_first : DataW Unit := Go.Pinned.utf8First

/-- 'recordlinklaw05.GramExact': WHATEVER THE INPUT: true; the input reads as it did. -/
def gramExactSpec : ChangeSpec := { name := "gramExact", fn := fun _ => fun
  | [d1, d2, d3, d4] => { results := [.lit (.bool true)], args := [d1, d2, d3, d4] }
  | _ => none }
def gramExactRow : OpenClaim := { program := "ytjdjjehdognpiaadoor", sum := "4aacddfcda01c13953979dcc209c526fb3cdceee1aba9a48351fe4d0aaa4c6bd", func := "recordlink/recordlinklaw05.GramExact", spec := "gramExact", inPlace := ["internal/bytealg.CountString", "internal/bytealg.IndexByteString", "internal/bytealg.IndexString"], unfollowed := true, recurses := true, named := ["unicode/utf8.first", "unicode/utf8.acceptRanges", "internal/bytealg.MaxLen"], apart := false, laid := [("unicode/utf8.acceptRanges", laid_unicode_utf8_acceptRanges), ("unicode/utf8.first", laid_unicode_utf8_first)] }
def GramExactSaid : Prop := gramExactRow.holds Tryd.pinned (OpenSpec.ofChange gramExactSpec)

/-- ITS FALSE NEIGHBOUR: 'it returns false'. Refute it at one input. -/
def gramExactWrong : ChangeSpec := { name := "gramExact", fn := fun _ => fun
  | [d1, d2, d3, d4] => { results := [.lit (.bool false)], args := [d1, d2, d3, d4] }
  | _ => none }
def GramExactWrongFalsely : Prop := gramExactRow.holds Tryd.pinned (OpenSpec.ofChange gramExactWrong)

/-- 'recordlinklaw05.GramTokens': WHATEVER THE INPUT: true; the input reads as it did. -/
def gramTokensSpec : ChangeSpec := { name := "gramTokens", fn := fun _ => fun
  | [d] => { results := [.lit (.bool true)], args := [d] }
  | _ => none }
def gramTokensRow : OpenClaim := { program := "ytjdjjehdognpiaadoor", sum := "4aacddfcda01c13953979dcc209c526fb3cdceee1aba9a48351fe4d0aaa4c6bd", func := "recordlink/recordlinklaw05.GramTokens", spec := "gramTokens", inPlace := ["internal/bytealg.CountString", "internal/bytealg.IndexByteString", "internal/bytealg.IndexString"], unfollowed := true, recurses := true, named := ["unicode/utf8.first", "unicode/utf8.acceptRanges", "internal/bytealg.MaxLen"], apart := false, laid := [("unicode/utf8.acceptRanges", laid_unicode_utf8_acceptRanges), ("unicode/utf8.first", laid_unicode_utf8_first)] }
def GramTokensSaid : Prop := gramTokensRow.holds Tryd.pinned (OpenSpec.ofChange gramTokensSpec)

/-- ITS FALSE NEIGHBOUR: 'it returns false'. Refute it at one input. -/
def gramTokensWrong : ChangeSpec := { name := "gramTokens", fn := fun _ => fun
  | [d] => { results := [.lit (.bool false)], args := [d] }
  | _ => none }
def GramTokensWrongFalsely : Prop := gramTokensRow.holds Tryd.pinned (OpenSpec.ofChange gramTokensWrong)

/-- 'recordlinklaw05.GramChange': WHATEVER THE INPUT: true; the input reads as it did. -/
def gramChangeSpec : ChangeSpec := { name := "gramChange", fn := fun _ => fun
  | [d1, d2, d3] => { results := [.lit (.bool true)], args := [d1, d2, d3] }
  | _ => none }
def gramChangeRow : OpenClaim := { program := "ytjdjjehdognpiaadoor", sum := "4aacddfcda01c13953979dcc209c526fb3cdceee1aba9a48351fe4d0aaa4c6bd", func := "recordlink/recordlinklaw05.GramChange", spec := "gramChange", inPlace := ["internal/bytealg.CountString", "internal/bytealg.IndexByteString", "internal/bytealg.IndexString"], unfollowed := true, recurses := true, named := ["unicode/utf8.first", "unicode/utf8.acceptRanges", "internal/bytealg.MaxLen"], apart := false, laid := [("unicode/utf8.acceptRanges", laid_unicode_utf8_acceptRanges), ("unicode/utf8.first", laid_unicode_utf8_first)] }
def GramChangeSaid : Prop := gramChangeRow.holds Tryd.pinned (OpenSpec.ofChange gramChangeSpec)

/-- ITS FALSE NEIGHBOUR: 'it returns false'. Refute it at one input. -/
def gramChangeWrong : ChangeSpec := { name := "gramChange", fn := fun _ => fun
  | [d1, d2, d3] => { results := [.lit (.bool false)], args := [d1, d2, d3] }
  | _ => none }
def GramChangeWrongFalsely : Prop := gramChangeRow.holds Tryd.pinned (OpenSpec.ofChange gramChangeWrong)

/-- 'recordlinklaw05.GramDice': WHATEVER THE INPUT: true; the input reads as it did. -/
def gramDiceSpec : ChangeSpec := { name := "gramDice", fn := fun _ => fun
  | [d] => { results := [.lit (.bool true)], args := [d] }
  | _ => none }
def gramDiceRow : OpenClaim := { program := "ytjdjjehdognpiaadoor", sum := "4aacddfcda01c13953979dcc209c526fb3cdceee1aba9a48351fe4d0aaa4c6bd", func := "recordlink/recordlinklaw05.GramDice", spec := "gramDice", inPlace := ["internal/bytealg.CountString", "internal/bytealg.IndexByteString", "internal/bytealg.IndexString"], unfollowed := true, recurses := true, named := ["unicode/utf8.first", "unicode/utf8.acceptRanges", "internal/bytealg.MaxLen"], apart := false, laid := [("unicode/utf8.acceptRanges", laid_unicode_utf8_acceptRanges), ("unicode/utf8.first", laid_unicode_utf8_first)] }
def GramDiceSaid : Prop := gramDiceRow.holds Tryd.pinned (OpenSpec.ofChange gramDiceSpec)

/-- ITS FALSE NEIGHBOUR: 'it returns false'. Refute it at one input. -/
def gramDiceWrong : ChangeSpec := { name := "gramDice", fn := fun _ => fun
  | [d] => { results := [.lit (.bool false)], args := [d] }
  | _ => none }
def GramDiceWrongFalsely : Prop := gramDiceRow.holds Tryd.pinned (OpenSpec.ofChange gramDiceWrong)

/-- 'recordlinklaw05.GramPositions': WHATEVER THE INPUT: true; the input reads as it did. -/
def gramPositionsSpec : ChangeSpec := { name := "gramPositions", fn := fun _ => fun
  | [d] => { results := [.lit (.bool true)], args := [d] }
  | _ => none }
def gramPositionsRow : OpenClaim := { program := "ytjdjjehdognpiaadoor", sum := "4aacddfcda01c13953979dcc209c526fb3cdceee1aba9a48351fe4d0aaa4c6bd", func := "recordlink/recordlinklaw05.GramPositions", spec := "gramPositions", inPlace := ["internal/bytealg.CountString", "internal/bytealg.IndexByteString", "internal/bytealg.IndexString"], unfollowed := true, recurses := true, named := ["unicode/utf8.first", "unicode/utf8.acceptRanges", "internal/bytealg.MaxLen"], apart := false, laid := [("unicode/utf8.acceptRanges", laid_unicode_utf8_acceptRanges), ("unicode/utf8.first", laid_unicode_utf8_first)] }
def GramPositionsSaid : Prop := gramPositionsRow.holds Tryd.pinned (OpenSpec.ofChange gramPositionsSpec)

/-- ITS FALSE NEIGHBOUR: 'it returns false'. Refute it at one input. -/
def gramPositionsWrong : ChangeSpec := { name := "gramPositions", fn := fun _ => fun
  | [d] => { results := [.lit (.bool false)], args := [d] }
  | _ => none }
def GramPositionsWrongFalsely : Prop := gramPositionsRow.holds Tryd.pinned (OpenSpec.ofChange gramPositionsWrong)

/- THE SECOND FORM. 'bulk': how many values and letters a reading holds, each counted each time it is reached (what is shared counts as often as it is met; a slice's spare places count too). A statement '..UptoSaid' is the law's where the arguments, and the package variables that the reading takes, are together of bulk at most 1048576: NARROWER than '..Said'. Prove '..Said' where nothing that the law and all that it calls make is longer than what came in: it says more and counts as full. Else prove '..UptoSaid'. A law counts once. -/
mutual
def uptoBulk {H : Type} : DataW H → Nat
  | .lit (.string bytes) => bytes.length + 1
  | .lit _ => 1
  | .nil => 1
  | .ptr d => uptoBulk d + 1
  | .slice elems spare => uptoBulkAll elems + uptoBulkAll spare + 1
  | .agg parts => uptoBulkAll parts + 1
  | .iface _ d => uptoBulk d + 1
  | .map entries => uptoBulkEntries entries + 1
  | .held _ => 1
def uptoBulkAll {H : Type} : List (DataW H) → Nat
  | [] => 0
  | d :: r => uptoBulk d + uptoBulkAll r
def uptoBulkEntries {H : Type} : List (Lit × DataW H) → Nat
  | [] => 0
  | x :: r => uptoBulkEntry x + uptoBulkEntries r
def uptoBulkEntry {H : Type} : Lit × DataW H → Nat
  | (.string bytes, d) => bytes.length + uptoBulk d + 1
  | (_, d) => uptoBulk d + 1
 end
def uptoSmall : (H : Type) → List (DataW H) → Bool := fun _ ds => decide (uptoBulkAll ds ≤ 1048576)
def OpenSpec.upto (s : _root_.Go.ChangeSpec) : _root_.Go.OpenSpec := { _root_.Go.OpenSpec.ofChange s with cond := some uptoSmall }

/-- 'recordlinklaw05.GramExact', WHERE WHAT IT READS IS OF BULK AT MOST 1048576: true; the input reads as it did. -/
def gramExactUptoRow : OpenClaim := { program := "ytjdjjehdognpiaadoor", sum := "4aacddfcda01c13953979dcc209c526fb3cdceee1aba9a48351fe4d0aaa4c6bd", func := "recordlink/recordlinklaw05.GramExact", spec := "gramExact", inPlace := ["internal/bytealg.CountString", "internal/bytealg.IndexByteString", "internal/bytealg.IndexString"], unfollowed := true, recurses := true, named := ["unicode/utf8.first", "unicode/utf8.acceptRanges", "internal/bytealg.MaxLen"], apart := false, laid := [("unicode/utf8.acceptRanges", laid_unicode_utf8_acceptRanges), ("unicode/utf8.first", laid_unicode_utf8_first)], narrowed := true }
def GramExactUptoSaid : Prop := gramExactUptoRow.holds Tryd.pinned (OpenSpec.upto gramExactSpec)

/-- 'recordlinklaw05.GramTokens', WHERE WHAT IT READS IS OF BULK AT MOST 1048576: true; the input reads as it did. -/
def gramTokensUptoRow : OpenClaim := { program := "ytjdjjehdognpiaadoor", sum := "4aacddfcda01c13953979dcc209c526fb3cdceee1aba9a48351fe4d0aaa4c6bd", func := "recordlink/recordlinklaw05.GramTokens", spec := "gramTokens", inPlace := ["internal/bytealg.CountString", "internal/bytealg.IndexByteString", "internal/bytealg.IndexString"], unfollowed := true, recurses := true, named := ["unicode/utf8.first", "unicode/utf8.acceptRanges", "internal/bytealg.MaxLen"], apart := false, laid := [("unicode/utf8.acceptRanges", laid_unicode_utf8_acceptRanges), ("unicode/utf8.first", laid_unicode_utf8_first)], narrowed := true }
def GramTokensUptoSaid : Prop := gramTokensUptoRow.holds Tryd.pinned (OpenSpec.upto gramTokensSpec)

/-- 'recordlinklaw05.GramChange', WHERE WHAT IT READS IS OF BULK AT MOST 1048576: true; the input reads as it did. -/
def gramChangeUptoRow : OpenClaim := { program := "ytjdjjehdognpiaadoor", sum := "4aacddfcda01c13953979dcc209c526fb3cdceee1aba9a48351fe4d0aaa4c6bd", func := "recordlink/recordlinklaw05.GramChange", spec := "gramChange", inPlace := ["internal/bytealg.CountString", "internal/bytealg.IndexByteString", "internal/bytealg.IndexString"], unfollowed := true, recurses := true, named := ["unicode/utf8.first", "unicode/utf8.acceptRanges", "internal/bytealg.MaxLen"], apart := false, laid := [("unicode/utf8.acceptRanges", laid_unicode_utf8_acceptRanges), ("unicode/utf8.first", laid_unicode_utf8_first)], narrowed := true }
def GramChangeUptoSaid : Prop := gramChangeUptoRow.holds Tryd.pinned (OpenSpec.upto gramChangeSpec)

/-- 'recordlinklaw05.GramDice', WHERE WHAT IT READS IS OF BULK AT MOST 1048576: true; the input reads as it did. -/
def gramDiceUptoRow : OpenClaim := { program := "ytjdjjehdognpiaadoor", sum := "4aacddfcda01c13953979dcc209c526fb3cdceee1aba9a48351fe4d0aaa4c6bd", func := "recordlink/recordlinklaw05.GramDice", spec := "gramDice", inPlace := ["internal/bytealg.CountString", "internal/bytealg.IndexByteString", "internal/bytealg.IndexString"], unfollowed := true, recurses := true, named := ["unicode/utf8.first", "unicode/utf8.acceptRanges", "internal/bytealg.MaxLen"], apart := false, laid := [("unicode/utf8.acceptRanges", laid_unicode_utf8_acceptRanges), ("unicode/utf8.first", laid_unicode_utf8_first)], narrowed := true }
def GramDiceUptoSaid : Prop := gramDiceUptoRow.holds Tryd.pinned (OpenSpec.upto gramDiceSpec)

/-- 'recordlinklaw05.GramPositions', WHERE WHAT IT READS IS OF BULK AT MOST 1048576: true; the input reads as it did. -/
def gramPositionsUptoRow : OpenClaim := { program := "ytjdjjehdognpiaadoor", sum := "4aacddfcda01c13953979dcc209c526fb3cdceee1aba9a48351fe4d0aaa4c6bd", func := "recordlink/recordlinklaw05.GramPositions", spec := "gramPositions", inPlace := ["internal/bytealg.CountString", "internal/bytealg.IndexByteString", "internal/bytealg.IndexString"], unfollowed := true, recurses := true, named := ["unicode/utf8.first", "unicode/utf8.acceptRanges", "internal/bytealg.MaxLen"], apart := false, laid := [("unicode/utf8.acceptRanges", laid_unicode_utf8_acceptRanges), ("unicode/utf8.first", laid_unicode_utf8_first)], narrowed := true }
def GramPositionsUptoSaid : Prop := gramPositionsUptoRow.holds Tryd.pinned (OpenSpec.upto gramPositionsSpec)

end Rows
end Go.Proofs.YtjdjjehdognpiaaDoor
