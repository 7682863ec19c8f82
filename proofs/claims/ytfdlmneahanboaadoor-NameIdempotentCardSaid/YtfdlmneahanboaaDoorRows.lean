/-
  NARROWER THAN 'FOR EVERY INPUT', by the rows' own cells (each row's printed sentence says how): NameExact: laid · NameIdempotent: laid · NameExtras: laid · NameNicknames: laid · NameOrder: laid · NameChecks: laid.
  DERIVED. THE GIVEN ROWS OF THIS SEAT. 6 by the template 'for every input the law returns true; each argument reads behind the call as it read before'; 0 by the template 'total and deterministic' (their statements: YtfdlmneahanboaaDoorTotals.lean).
  GIVEN WITH THE SEED: the statements are not yours to turn. If you find one false, say at which input.
  Laid BY PROGRAM, IN A SANDBOX (cutbox-rows.mjs): the forced cells as the released guide's own fill.sh prints them over the translation b9b932b8216bd5d6… (all of the seat's roots in one cut). By AI agents, Wed Nov 11 2026. No macro, syntax, notation, axiom, sorry.
-/
import Derived.Test.YtfdlmneahanboaaDoorChecked
import GoSem.PinnedTables
import GoSem.Claim
import GoSem.ClaimJoined
import GoSem.ClaimMapViews
import Derived.JoinedTies
import Derived.KernelRfl
namespace Go.Proofs.YtfdlmneahanboaaDoor
/- THE CELL 'sum', in the pinned program and in every row, IS THE sha256 OF THE DUMP (.gsa) THAT YtfdlmneahanboaaDoorProg.lean LOADS. Nothing in Lean hashes anything: it is a label: what it is worth is what the hold of that sum in a sandbox is worth. -/
noncomputable def Tryd.pinned : Pinned := { name := "ytfdlmneahanboaadoor", sum := "b9b932b8216bd5d69f2f6bd05e603466389bcd09d100a7099c28086e76802046", checked := Tryd.checked }
namespace Rows
def none {H : Type} : Left H := { results := [], args := [] }

/- WHAT THE LISTED PACKAGE-LEVEL VARIABLES READ AS WHEN THE CALL BEGINS. Each datum BY PROGRAM (the guide's laid-datum.mjs) off the statement by which the dump's own 'gosem.cut.vars' lays the variable. In a bare row this is a premise. The card (YtfdlmneahanboaaDoorCards.lean) ties it to the program's text. -/
def laid_unicode_utf8_acceptRanges {H : Type} : DataW H := .agg [.agg [.lit (.int .u8 128), .lit (.int .u8 191)], .agg [.lit (.int .u8 160), .lit (.int .u8 191)], .agg [.lit (.int .u8 128), .lit (.int .u8 159)], .agg [.lit (.int .u8 144), .lit (.int .u8 191)], .agg [.lit (.int .u8 128), .lit (.int .u8 143)], .agg [.lit (.int .u8 0), .lit (.int .u8 0)], .agg [.lit (.int .u8 0), .lit (.int .u8 0)], .agg [.lit (.int .u8 0), .lit (.int .u8 0)], .agg [.lit (.int .u8 0), .lit (.int .u8 0)], .agg [.lit (.int .u8 0), .lit (.int .u8 0)], .agg [.lit (.int .u8 0), .lit (.int .u8 0)], .agg [.lit (.int .u8 0), .lit (.int .u8 0)], .agg [.lit (.int .u8 0), .lit (.int .u8 0)], .agg [.lit (.int .u8 0), .lit (.int .u8 0)], .agg [.lit (.int .u8 0), .lit (.int .u8 0)], .agg [.lit (.int .u8 0), .lit (.int .u8 0)]]
def laid_recordlink_text_replacements {H : Type} : DataW H := .agg [.lit (.string [97]), .lit (.string [97]), .lit (.string [97]), .lit (.string [97]), .lit (.string [97]), .lit (.string [97]), .lit (.string [97, 101]), .lit (.string [99]), .lit (.string [101]), .lit (.string [101]), .lit (.string [101]), .lit (.string [101]), .lit (.string [105]), .lit (.string [105]), .lit (.string [105]), .lit (.string [105]), .lit (.string [100]), .lit (.string [110]), .lit (.string [111]), .lit (.string [111]), .lit (.string [111]), .lit (.string [111]), .lit (.string [111]), .lit (.string []), .lit (.string [111]), .lit (.string [117]), .lit (.string [117]), .lit (.string [117]), .lit (.string [117]), .lit (.string [121]), .lit (.string [116, 104]), .lit (.string [115, 115]), .lit (.string [97]), .lit (.string [97]), .lit (.string [97]), .lit (.string [97]), .lit (.string [97]), .lit (.string [97]), .lit (.string [97, 101]), .lit (.string [99]), .lit (.string [101]), .lit (.string [101]), .lit (.string [101]), .lit (.string [101]), .lit (.string [105]), .lit (.string [105]), .lit (.string [105]), .lit (.string [105]), .lit (.string [100]), .lit (.string [110]), .lit (.string [111]), .lit (.string [111]), .lit (.string [111]), .lit (.string [111]), .lit (.string [111]), .lit (.string []), .lit (.string [111]), .lit (.string [117]), .lit (.string [117]), .lit (.string [117]), .lit (.string [117]), .lit (.string [121]), .lit (.string [116, 104]), .lit (.string [121])]
/-- One of Go's own tables, pinned by name: the form's constant. -/
def laid_unicode_utf8_first : DataW Unit := Go.Pinned.utf8First

/-- 'recordlinklaw02.NameExact': WHATEVER THE INPUT: true; the input reads as it did. -/
def nameExactSpec : ChangeSpec := { name := "nameExact", fn := fun _ => fun
  | [d1, d2, d3, d4] => { results := [.lit (.bool true)], args := [d1, d2, d3, d4] }
  | _ => none }
def nameExactRow : OpenClaim := { program := "ytfdlmneahanboaadoor", sum := "b9b932b8216bd5d69f2f6bd05e603466389bcd09d100a7099c28086e76802046", func := "recordlink/recordlinklaw02.NameExact", spec := "nameExact", inPlace := ["internal/abi.NoEscape", "internal/bytealg.CountString", "internal/bytealg.IndexByteString", "internal/bytealg.IndexString", "internal/bytealg.MakeNoZero"], unfollowed := true, recurses := true, named := ["recordlink/text.replacements", "unicode/utf8.first", "unicode/utf8.acceptRanges", "internal/bytealg.MaxLen"], apart := false, laid := [("unicode/utf8.acceptRanges", laid_unicode_utf8_acceptRanges), ("recordlink/text.replacements", laid_recordlink_text_replacements), ("unicode/utf8.first", laid_unicode_utf8_first)] }
def NameExactSaid : Prop := nameExactRow.holds Tryd.pinned (OpenSpec.ofChange nameExactSpec)

/-- ITS FALSE NEIGHBOUR: 'it returns false'. Refute it at one input. -/
def nameExactWrong : ChangeSpec := { name := "nameExact", fn := fun _ => fun
  | [d1, d2, d3, d4] => { results := [.lit (.bool false)], args := [d1, d2, d3, d4] }
  | _ => none }
def NameExactWrongFalsely : Prop := nameExactRow.holds Tryd.pinned (OpenSpec.ofChange nameExactWrong)

/-- 'recordlinklaw02.NameIdempotent': WHATEVER THE INPUT: true; the input reads as it did. -/
def nameIdempotentSpec : ChangeSpec := { name := "nameIdempotent", fn := fun _ => fun
  | [d] => { results := [.lit (.bool true)], args := [d] }
  | _ => none }
def nameIdempotentRow : OpenClaim := { program := "ytfdlmneahanboaadoor", sum := "b9b932b8216bd5d69f2f6bd05e603466389bcd09d100a7099c28086e76802046", func := "recordlink/recordlinklaw02.NameIdempotent", spec := "nameIdempotent", inPlace := ["internal/abi.NoEscape", "internal/bytealg.CountString", "internal/bytealg.IndexByteString", "internal/bytealg.IndexString", "internal/bytealg.MakeNoZero"], unfollowed := true, recurses := true, named := ["recordlink/text.replacements", "unicode/utf8.first", "unicode/utf8.acceptRanges", "internal/bytealg.MaxLen"], apart := false, laid := [("unicode/utf8.acceptRanges", laid_unicode_utf8_acceptRanges), ("recordlink/text.replacements", laid_recordlink_text_replacements), ("unicode/utf8.first", laid_unicode_utf8_first)] }
def NameIdempotentSaid : Prop := nameIdempotentRow.holds Tryd.pinned (OpenSpec.ofChange nameIdempotentSpec)

/-- ITS FALSE NEIGHBOUR: 'it returns false'. Refute it at one input. -/
def nameIdempotentWrong : ChangeSpec := { name := "nameIdempotent", fn := fun _ => fun
  | [d] => { results := [.lit (.bool false)], args := [d] }
  | _ => none }
def NameIdempotentWrongFalsely : Prop := nameIdempotentRow.holds Tryd.pinned (OpenSpec.ofChange nameIdempotentWrong)

/-- 'recordlinklaw02.NameExtras': WHATEVER THE INPUT: true; the input reads as it did. -/
def nameExtrasSpec : ChangeSpec := { name := "nameExtras", fn := fun _ => fun
  | [d] => { results := [.lit (.bool true)], args := [d] }
  | _ => none }
def nameExtrasRow : OpenClaim := { program := "ytfdlmneahanboaadoor", sum := "b9b932b8216bd5d69f2f6bd05e603466389bcd09d100a7099c28086e76802046", func := "recordlink/recordlinklaw02.NameExtras", spec := "nameExtras", inPlace := ["internal/abi.NoEscape", "internal/bytealg.CountString", "internal/bytealg.IndexByteString", "internal/bytealg.IndexString", "internal/bytealg.MakeNoZero"], unfollowed := true, recurses := true, named := ["recordlink/text.replacements", "unicode/utf8.first", "unicode/utf8.acceptRanges", "internal/bytealg.MaxLen"], apart := false, laid := [("unicode/utf8.acceptRanges", laid_unicode_utf8_acceptRanges), ("recordlink/text.replacements", laid_recordlink_text_replacements), ("unicode/utf8.first", laid_unicode_utf8_first)] }
def NameExtrasSaid : Prop := nameExtrasRow.holds Tryd.pinned (OpenSpec.ofChange nameExtrasSpec)

/-- ITS FALSE NEIGHBOUR: 'it returns false'. Refute it at one input. -/
def nameExtrasWrong : ChangeSpec := { name := "nameExtras", fn := fun _ => fun
  | [d] => { results := [.lit (.bool false)], args := [d] }
  | _ => none }
def NameExtrasWrongFalsely : Prop := nameExtrasRow.holds Tryd.pinned (OpenSpec.ofChange nameExtrasWrong)

/-- 'recordlinklaw02.NameNicknames': WHATEVER THE INPUT: true; the input reads as it did. -/
def nameNicknamesSpec : ChangeSpec := { name := "nameNicknames", fn := fun _ => fun
  | [d] => { results := [.lit (.bool true)], args := [d] }
  | _ => none }
def nameNicknamesRow : OpenClaim := { program := "ytfdlmneahanboaadoor", sum := "b9b932b8216bd5d69f2f6bd05e603466389bcd09d100a7099c28086e76802046", func := "recordlink/recordlinklaw02.NameNicknames", spec := "nameNicknames", inPlace := ["internal/abi.NoEscape", "internal/bytealg.CountString", "internal/bytealg.IndexByteString", "internal/bytealg.IndexString", "internal/bytealg.MakeNoZero"], unfollowed := true, recurses := true, named := ["recordlink/text.replacements", "unicode/utf8.first", "unicode/utf8.acceptRanges", "internal/bytealg.MaxLen"], apart := false, laid := [("unicode/utf8.acceptRanges", laid_unicode_utf8_acceptRanges), ("recordlink/text.replacements", laid_recordlink_text_replacements), ("unicode/utf8.first", laid_unicode_utf8_first)] }
def NameNicknamesSaid : Prop := nameNicknamesRow.holds Tryd.pinned (OpenSpec.ofChange nameNicknamesSpec)

/-- ITS FALSE NEIGHBOUR: 'it returns false'. Refute it at one input. -/
def nameNicknamesWrong : ChangeSpec := { name := "nameNicknames", fn := fun _ => fun
  | [d] => { results := [.lit (.bool false)], args := [d] }
  | _ => none }
def NameNicknamesWrongFalsely : Prop := nameNicknamesRow.holds Tryd.pinned (OpenSpec.ofChange nameNicknamesWrong)

/-- 'recordlinklaw02.NameOrder': WHATEVER THE INPUT: true; the input reads as it did. -/
def nameOrderSpec : ChangeSpec := { name := "nameOrder", fn := fun _ => fun
  | [d] => { results := [.lit (.bool true)], args := [d] }
  | _ => none }
def nameOrderRow : OpenClaim := { program := "ytfdlmneahanboaadoor", sum := "b9b932b8216bd5d69f2f6bd05e603466389bcd09d100a7099c28086e76802046", func := "recordlink/recordlinklaw02.NameOrder", spec := "nameOrder", inPlace := ["internal/abi.NoEscape", "internal/bytealg.CountString", "internal/bytealg.IndexByteString", "internal/bytealg.IndexString", "internal/bytealg.MakeNoZero"], unfollowed := true, recurses := true, named := ["recordlink/text.replacements", "unicode/utf8.first", "unicode/utf8.acceptRanges", "internal/bytealg.MaxLen"], apart := false, laid := [("unicode/utf8.acceptRanges", laid_unicode_utf8_acceptRanges), ("recordlink/text.replacements", laid_recordlink_text_replacements), ("unicode/utf8.first", laid_unicode_utf8_first)] }
def NameOrderSaid : Prop := nameOrderRow.holds Tryd.pinned (OpenSpec.ofChange nameOrderSpec)

/-- ITS FALSE NEIGHBOUR: 'it returns false'. Refute it at one input. -/
def nameOrderWrong : ChangeSpec := { name := "nameOrder", fn := fun _ => fun
  | [d] => { results := [.lit (.bool false)], args := [d] }
  | _ => none }
def NameOrderWrongFalsely : Prop := nameOrderRow.holds Tryd.pinned (OpenSpec.ofChange nameOrderWrong)

/-- 'recordlinklaw02.NameChecks': WHATEVER THE INPUT: true; the input reads as it did. -/
def nameChecksSpec : ChangeSpec := { name := "nameChecks", fn := fun _ => fun
  | [d] => { results := [.lit (.bool true)], args := [d] }
  | _ => none }
def nameChecksRow : OpenClaim := { program := "ytfdlmneahanboaadoor", sum := "b9b932b8216bd5d69f2f6bd05e603466389bcd09d100a7099c28086e76802046", func := "recordlink/recordlinklaw02.NameChecks", spec := "nameChecks", inPlace := ["internal/abi.NoEscape", "internal/bytealg.CountString", "internal/bytealg.IndexByteString", "internal/bytealg.IndexString", "internal/bytealg.MakeNoZero"], unfollowed := true, recurses := true, named := ["recordlink/text.replacements", "unicode/utf8.first", "unicode/utf8.acceptRanges", "internal/bytealg.MaxLen"], apart := false, laid := [("unicode/utf8.acceptRanges", laid_unicode_utf8_acceptRanges), ("recordlink/text.replacements", laid_recordlink_text_replacements), ("unicode/utf8.first", laid_unicode_utf8_first)] }
def NameChecksSaid : Prop := nameChecksRow.holds Tryd.pinned (OpenSpec.ofChange nameChecksSpec)

/-- ITS FALSE NEIGHBOUR: 'it returns false'. Refute it at one input. -/
def nameChecksWrong : ChangeSpec := { name := "nameChecks", fn := fun _ => fun
  | [d] => { results := [.lit (.bool false)], args := [d] }
  | _ => none }
def NameChecksWrongFalsely : Prop := nameChecksRow.holds Tryd.pinned (OpenSpec.ofChange nameChecksWrong)

/- THE SECOND FORM. 'bulk': how many values and letters a reading holds, each counted each time it is reached (what is shared counts as often as it is met; a slice's spare places count too). A statement '..UptoSaid' is the law's where the arguments, and the package variables that the reading takes, are together of bulk at most 1048576: NARROWER than '..Said'. Prove '..Said' where nothing that the law and all that it calls make is longer than what came in: it says more and counts as full. Else prove '..UptoSaid'. A law counts once. -/
mutual
def uptoBulk {H : Type} : DataW H → Nat
  | .lit (.string bytes) => bytes.length + 1
  | .lit _ => 1
  | .nil => 1
  | .ptr d => uptoBulk d + 1
  | .slice elems spare => uptoBulkAll elems + uptoBulkAll spare + 1
  | .agg parts => uptoBulkAll parts + 1
  | .iface _ d => uptoBulk d + 1
  | .map entries => uptoBulkEntries entries + 1
  | .held _ => 1
def uptoBulkAll {H : Type} : List (DataW H) → Nat
  | [] => 0
  | d :: r => uptoBulk d + uptoBulkAll r
def uptoBulkEntries {H : Type} : List (Lit × DataW H) → Nat
  | [] => 0
  | x :: r => uptoBulkEntry x + uptoBulkEntries r
def uptoBulkEntry {H : Type} : Lit × DataW H → Nat
  | (.string bytes, d) => bytes.length + uptoBulk d + 1
  | (_, d) => uptoBulk d + 1
 end
def uptoSmall : (H : Type) → List (DataW H) → Bool := fun _ ds => decide (uptoBulkAll ds ≤ 1048576)
def OpenSpec.upto (s : _root_.Go.ChangeSpec) : _root_.Go.OpenSpec := { _root_.Go.OpenSpec.ofChange s with cond := some uptoSmall }

/-- 'recordlinklaw02.NameExact', WHERE WHAT IT READS IS OF BULK AT MOST 1048576: true; the input reads as it did. -/
def nameExactUptoRow : OpenClaim := { program := "ytfdlmneahanboaadoor", sum := "b9b932b8216bd5d69f2f6bd05e603466389bcd09d100a7099c28086e76802046", func := "recordlink/recordlinklaw02.NameExact", spec := "nameExact", inPlace := ["internal/abi.NoEscape", "internal/bytealg.CountString", "internal/bytealg.IndexByteString", "internal/bytealg.IndexString", "internal/bytealg.MakeNoZero"], unfollowed := true, recurses := true, named := ["recordlink/text.replacements", "unicode/utf8.first", "unicode/utf8.acceptRanges", "internal/bytealg.MaxLen"], apart := false, laid := [("unicode/utf8.acceptRanges", laid_unicode_utf8_acceptRanges), ("recordlink/text.replacements", laid_recordlink_text_replacements), ("unicode/utf8.first", laid_unicode_utf8_first)], narrowed := true }
def NameExactUptoSaid : Prop := nameExactUptoRow.holds Tryd.pinned (OpenSpec.upto nameExactSpec)

/-- 'recordlinklaw02.NameIdempotent', WHERE WHAT IT READS IS OF BULK AT MOST 1048576: true; the input reads as it did. -/
def nameIdempotentUptoRow : OpenClaim := { program := "ytfdlmneahanboaadoor", sum := "b9b932b8216bd5d69f2f6bd05e603466389bcd09d100a7099c28086e76802046", func := "recordlink/recordlinklaw02.NameIdempotent", spec := "nameIdempotent", inPlace := ["internal/abi.NoEscape", "internal/bytealg.CountString", "internal/bytealg.IndexByteString", "internal/bytealg.IndexString", "internal/bytealg.MakeNoZero"], unfollowed := true, recurses := true, named := ["recordlink/text.replacements", "unicode/utf8.first", "unicode/utf8.acceptRanges", "internal/bytealg.MaxLen"], apart := false, laid := [("unicode/utf8.acceptRanges", laid_unicode_utf8_acceptRanges), ("recordlink/text.replacements", laid_recordlink_text_replacements), ("unicode/utf8.first", laid_unicode_utf8_first)], narrowed := true }
def NameIdempotentUptoSaid : Prop := nameIdempotentUptoRow.holds Tryd.pinned (OpenSpec.upto nameIdempotentSpec)

/-- 'recordlinklaw02.NameExtras', WHERE WHAT IT READS IS OF BULK AT MOST 1048576: true; the input reads as it did. -/
def nameExtrasUptoRow : OpenClaim := { program := "ytfdlmneahanboaadoor", sum := "b9b932b8216bd5d69f2f6bd05e603466389bcd09d100a7099c28086e76802046", func := "recordlink/recordlinklaw02.NameExtras", spec := "nameExtras", inPlace := ["internal/abi.NoEscape", "internal/bytealg.CountString", "internal/bytealg.IndexByteString", "internal/bytealg.IndexString", "internal/bytealg.MakeNoZero"], unfollowed := true, recurses := true, named := ["recordlink/text.replacements", "unicode/utf8.first", "unicode/utf8.acceptRanges", "internal/bytealg.MaxLen"], apart := false, laid := [("unicode/utf8.acceptRanges", laid_unicode_utf8_acceptRanges), ("recordlink/text.replacements", laid_recordlink_text_replacements), ("unicode/utf8.first", laid_unicode_utf8_first)], narrowed := true }
def NameExtrasUptoSaid : Prop := nameExtrasUptoRow.holds Tryd.pinned (OpenSpec.upto nameExtrasSpec)

/-- 'recordlinklaw02.NameNicknames', WHERE WHAT IT READS IS OF BULK AT MOST 1048576: true; the input reads as it did. -/
def nameNicknamesUptoRow : OpenClaim := { program := "ytfdlmneahanboaadoor", sum := "b9b932b8216bd5d69f2f6bd05e603466389bcd09d100a7099c28086e76802046", func := "recordlink/recordlinklaw02.NameNicknames", spec := "nameNicknames", inPlace := ["internal/abi.NoEscape", "internal/bytealg.CountString", "internal/bytealg.IndexByteString", "internal/bytealg.IndexString", "internal/bytealg.MakeNoZero"], unfollowed := true, recurses := true, named := ["recordlink/text.replacements", "unicode/utf8.first", "unicode/utf8.acceptRanges", "internal/bytealg.MaxLen"], apart := false, laid := [("unicode/utf8.acceptRanges", laid_unicode_utf8_acceptRanges), ("recordlink/text.replacements", laid_recordlink_text_replacements), ("unicode/utf8.first", laid_unicode_utf8_first)], narrowed := true }
def NameNicknamesUptoSaid : Prop := nameNicknamesUptoRow.holds Tryd.pinned (OpenSpec.upto nameNicknamesSpec)

/-- 'recordlinklaw02.NameOrder', WHERE WHAT IT READS IS OF BULK AT MOST 1048576: true; the input reads as it did. -/
def nameOrderUptoRow : OpenClaim := { program := "ytfdlmneahanboaadoor", sum := "b9b932b8216bd5d69f2f6bd05e603466389bcd09d100a7099c28086e76802046", func := "recordlink/recordlinklaw02.NameOrder", spec := "nameOrder", inPlace := ["internal/abi.NoEscape", "internal/bytealg.CountString", "internal/bytealg.IndexByteString", "internal/bytealg.IndexString", "internal/bytealg.MakeNoZero"], unfollowed := true, recurses := true, named := ["recordlink/text.replacements", "unicode/utf8.first", "unicode/utf8.acceptRanges", "internal/bytealg.MaxLen"], apart := false, laid := [("unicode/utf8.acceptRanges", laid_unicode_utf8_acceptRanges), ("recordlink/text.replacements", laid_recordlink_text_replacements), ("unicode/utf8.first", laid_unicode_utf8_first)], narrowed := true }
def NameOrderUptoSaid : Prop := nameOrderUptoRow.holds Tryd.pinned (OpenSpec.upto nameOrderSpec)

/-- 'recordlinklaw02.NameChecks', WHERE WHAT IT READS IS OF BULK AT MOST 1048576: true; the input reads as it did. -/
def nameChecksUptoRow : OpenClaim := { program := "ytfdlmneahanboaadoor", sum := "b9b932b8216bd5d69f2f6bd05e603466389bcd09d100a7099c28086e76802046", func := "recordlink/recordlinklaw02.NameChecks", spec := "nameChecks", inPlace := ["internal/abi.NoEscape", "internal/bytealg.CountString", "internal/bytealg.IndexByteString", "internal/bytealg.IndexString", "internal/bytealg.MakeNoZero"], unfollowed := true, recurses := true, named := ["recordlink/text.replacements", "unicode/utf8.first", "unicode/utf8.acceptRanges", "internal/bytealg.MaxLen"], apart := false, laid := [("unicode/utf8.acceptRanges", laid_unicode_utf8_acceptRanges), ("recordlink/text.replacements", laid_recordlink_text_replacements), ("unicode/utf8.first", laid_unicode_utf8_first)], narrowed := true }
def NameChecksUptoSaid : Prop := nameChecksUptoRow.holds Tryd.pinned (OpenSpec.upto nameChecksSpec)

end Rows
end Go.Proofs.YtfdlmneahanboaaDoor
