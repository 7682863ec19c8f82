/-
  NARROWER THAN 'FOR EVERY INPUT', by the rows' own cells (each row's printed sentence says how): PhoneticExact: laid · PhoneticDoubles: laid · PhoneticSilent: laid · PhoneticShape: laid · PhoneticKeys: laid.
  DERIVED. THE GIVEN ROWS OF THIS SEAT. 5 by the template 'for every input the law returns true; each argument reads behind the call as it read before'; 0 by the template 'total and deterministic' (their statements: YtblkebjfnboclaaDoorTotals.lean).
  GIVEN WITH THE SEED: the statements are not yours to turn. If you find one false, say at which input.
  Laid BY PROGRAM, IN A SANDBOX (cutbox-rows.mjs): the forced cells as the released guide's own fill.sh prints them over the translation d244d467346912b1… (all of the seat's roots in one cut). By AI agents, Wed Nov 11 2026. No macro, syntax, notation, axiom, sorry.
-/
import Derived.Test.YtblkebjfnboclaaDoorChecked
import GoSem.PinnedTables
import GoSem.Claim
import GoSem.ClaimJoined
import GoSem.ClaimMapViews
import Derived.JoinedTies
import Derived.KernelRfl
namespace Go.Proofs.YtblkebjfnboclaaDoor
/- THE CELL 'sum', in the pinned program and in every row, IS THE sha256 OF THE DUMP (.gsa) THAT YtblkebjfnboclaaDoorProg.lean LOADS. Nothing in Lean hashes anything: it is a label: what it is worth is what the hold of that sum in a sandbox is worth. -/
noncomputable def Tryd.pinned : Pinned := { name := "ytblkebjfnboclaadoor", sum := "d244d467346912b1c82ca95a5f0ca0e7195323e1e30a241d299c343adfa2b250", checked := Tryd.checked }
namespace Rows
def none {H : Type} : Left H := { results := [], args := [] }

/- WHAT THE LISTED PACKAGE-LEVEL VARIABLES READ AS WHEN THE CALL BEGINS. Each datum BY PROGRAM (the guide's laid-datum.mjs) off the statement by which the dump's own 'gosem.cut.vars' lays the variable. In a bare row this is a premise. The card (YtblkebjfnboclaaDoorCards.lean) ties it to the program's text. -/
def laid_unicode_utf8_acceptRanges {H : Type} : DataW H := .agg [.agg [.lit (.int .u8 128), .lit (.int .u8 191)], .agg [.lit (.int .u8 160), .lit (.int .u8 191)], .agg [.lit (.int .u8 128), .lit (.int .u8 159)], .agg [.lit (.int .u8 144), .lit (.int .u8 191)], .agg [.lit (.int .u8 128), .lit (.int .u8 143)], .agg [.lit (.int .u8 0), .lit (.int .u8 0)], .agg [.lit (.int .u8 0), .lit (.int .u8 0)], .agg [.lit (.int .u8 0), .lit (.int .u8 0)], .agg [.lit (.int .u8 0), .lit (.int .u8 0)], .agg [.lit (.int .u8 0), .lit (.int .u8 0)], .agg [.lit (.int .u8 0), .lit (.int .u8 0)], .agg [.lit (.int .u8 0), .lit (.int .u8 0)], .agg [.lit (.int .u8 0), .lit (.int .u8 0)], .agg [.lit (.int .u8 0), .lit (.int .u8 0)], .agg [.lit (.int .u8 0), .lit (.int .u8 0)], .agg [.lit (.int .u8 0), .lit (.int .u8 0)]]
/-- One of Go's own tables, pinned by name: the form's constant. -/
def laid_unicode_utf8_first : DataW Unit := Go.Pinned.utf8First

/-- 'recordlinklaw06.PhoneticExact': WHATEVER THE INPUT: true; the input reads as it did. -/
def phoneticExactSpec : ChangeSpec := { name := "phoneticExact", fn := fun _ => fun
  | [d1, d2, d3] => { results := [.lit (.bool true)], args := [d1, d2, d3] }
  | _ => none }
def phoneticExactRow : OpenClaim := { program := "ytblkebjfnboclaadoor", sum := "d244d467346912b1c82ca95a5f0ca0e7195323e1e30a241d299c343adfa2b250", func := "recordlink/recordlinklaw06.PhoneticExact", spec := "phoneticExact", inPlace := ["internal/abi.NoEscape", "internal/bytealg.CountString", "internal/bytealg.IndexByteString", "internal/bytealg.IndexString"], named := ["unicode/utf8.first", "unicode/utf8.acceptRanges", "internal/bytealg.MaxLen"], apart := false, laid := [("unicode/utf8.acceptRanges", laid_unicode_utf8_acceptRanges), ("unicode/utf8.first", laid_unicode_utf8_first)] }
def PhoneticExactSaid : Prop := phoneticExactRow.holds Tryd.pinned (OpenSpec.ofChange phoneticExactSpec)

/-- ITS FALSE NEIGHBOUR: 'it returns false'. Refute it at one input. -/
def phoneticExactWrong : ChangeSpec := { name := "phoneticExact", fn := fun _ => fun
  | [d1, d2, d3] => { results := [.lit (.bool false)], args := [d1, d2, d3] }
  | _ => none }
def PhoneticExactWrongFalsely : Prop := phoneticExactRow.holds Tryd.pinned (OpenSpec.ofChange phoneticExactWrong)

/-- 'recordlinklaw06.PhoneticDoubles': WHATEVER THE INPUT: true; the input reads as it did. -/
def phoneticDoublesSpec : ChangeSpec := { name := "phoneticDoubles", fn := fun _ => fun
  | [d1, d2] => { results := [.lit (.bool true)], args := [d1, d2] }
  | _ => none }
def phoneticDoublesRow : OpenClaim := { program := "ytblkebjfnboclaadoor", sum := "d244d467346912b1c82ca95a5f0ca0e7195323e1e30a241d299c343adfa2b250", func := "recordlink/recordlinklaw06.PhoneticDoubles", spec := "phoneticDoubles", inPlace := ["internal/abi.NoEscape", "internal/bytealg.CountString", "internal/bytealg.IndexByteString", "internal/bytealg.IndexString"], named := ["unicode/utf8.first", "unicode/utf8.acceptRanges", "internal/bytealg.MaxLen"], apart := false, laid := [("unicode/utf8.acceptRanges", laid_unicode_utf8_acceptRanges), ("unicode/utf8.first", laid_unicode_utf8_first)] }
def PhoneticDoublesSaid : Prop := phoneticDoublesRow.holds Tryd.pinned (OpenSpec.ofChange phoneticDoublesSpec)

/-- ITS FALSE NEIGHBOUR: 'it returns false'. Refute it at one input. -/
def phoneticDoublesWrong : ChangeSpec := { name := "phoneticDoubles", fn := fun _ => fun
  | [d1, d2] => { results := [.lit (.bool false)], args := [d1, d2] }
  | _ => none }
def PhoneticDoublesWrongFalsely : Prop := phoneticDoublesRow.holds Tryd.pinned (OpenSpec.ofChange phoneticDoublesWrong)

/-- 'recordlinklaw06.PhoneticSilent': WHATEVER THE INPUT: true; the input reads as it did. -/
def phoneticSilentSpec : ChangeSpec := { name := "phoneticSilent", fn := fun _ => fun
  | [d1, d2] => { results := [.lit (.bool true)], args := [d1, d2] }
  | _ => none }
def phoneticSilentRow : OpenClaim := { program := "ytblkebjfnboclaadoor", sum := "d244d467346912b1c82ca95a5f0ca0e7195323e1e30a241d299c343adfa2b250", func := "recordlink/recordlinklaw06.PhoneticSilent", spec := "phoneticSilent", inPlace := ["internal/abi.NoEscape", "internal/bytealg.CountString", "internal/bytealg.IndexByteString", "internal/bytealg.IndexString"], named := ["unicode/utf8.first", "unicode/utf8.acceptRanges", "internal/bytealg.MaxLen"], apart := false, laid := [("unicode/utf8.acceptRanges", laid_unicode_utf8_acceptRanges), ("unicode/utf8.first", laid_unicode_utf8_first)] }
def PhoneticSilentSaid : Prop := phoneticSilentRow.holds Tryd.pinned (OpenSpec.ofChange phoneticSilentSpec)

/-- ITS FALSE NEIGHBOUR: 'it returns false'. Refute it at one input. -/
def phoneticSilentWrong : ChangeSpec := { name := "phoneticSilent", fn := fun _ => fun
  | [d1, d2] => { results := [.lit (.bool false)], args := [d1, d2] }
  | _ => none }
def PhoneticSilentWrongFalsely : Prop := phoneticSilentRow.holds Tryd.pinned (OpenSpec.ofChange phoneticSilentWrong)

/-- 'recordlinklaw06.PhoneticShape': WHATEVER THE INPUT: true; the input reads as it did. -/
def phoneticShapeSpec : ChangeSpec := { name := "phoneticShape", fn := fun _ => fun
  | [d] => { results := [.lit (.bool true)], args := [d] }
  | _ => none }
def phoneticShapeRow : OpenClaim := { program := "ytblkebjfnboclaadoor", sum := "d244d467346912b1c82ca95a5f0ca0e7195323e1e30a241d299c343adfa2b250", func := "recordlink/recordlinklaw06.PhoneticShape", spec := "phoneticShape", inPlace := ["internal/abi.NoEscape", "internal/bytealg.CountString", "internal/bytealg.IndexByteString", "internal/bytealg.IndexString"], named := ["unicode/utf8.first", "unicode/utf8.acceptRanges", "internal/bytealg.MaxLen"], apart := false, laid := [("unicode/utf8.acceptRanges", laid_unicode_utf8_acceptRanges), ("unicode/utf8.first", laid_unicode_utf8_first)] }
def PhoneticShapeSaid : Prop := phoneticShapeRow.holds Tryd.pinned (OpenSpec.ofChange phoneticShapeSpec)

/-- ITS FALSE NEIGHBOUR: 'it returns false'. Refute it at one input. -/
def phoneticShapeWrong : ChangeSpec := { name := "phoneticShape", fn := fun _ => fun
  | [d] => { results := [.lit (.bool false)], args := [d] }
  | _ => none }
def PhoneticShapeWrongFalsely : Prop := phoneticShapeRow.holds Tryd.pinned (OpenSpec.ofChange phoneticShapeWrong)

/-- 'recordlinklaw06.PhoneticKeys': WHATEVER THE INPUT: true; the input reads as it did. -/
def phoneticKeysSpec : ChangeSpec := { name := "phoneticKeys", fn := fun _ => fun
  | [d] => { results := [.lit (.bool true)], args := [d] }
  | _ => none }
def phoneticKeysRow : OpenClaim := { program := "ytblkebjfnboclaadoor", sum := "d244d467346912b1c82ca95a5f0ca0e7195323e1e30a241d299c343adfa2b250", func := "recordlink/recordlinklaw06.PhoneticKeys", spec := "phoneticKeys", inPlace := ["internal/abi.NoEscape", "internal/bytealg.CountString", "internal/bytealg.IndexByteString", "internal/bytealg.IndexString"], named := ["unicode/utf8.first", "unicode/utf8.acceptRanges", "internal/bytealg.MaxLen"], apart := false, laid := [("unicode/utf8.acceptRanges", laid_unicode_utf8_acceptRanges), ("unicode/utf8.first", laid_unicode_utf8_first)] }
def PhoneticKeysSaid : Prop := phoneticKeysRow.holds Tryd.pinned (OpenSpec.ofChange phoneticKeysSpec)

/-- ITS FALSE NEIGHBOUR: 'it returns false'. Refute it at one input. -/
def phoneticKeysWrong : ChangeSpec := { name := "phoneticKeys", fn := fun _ => fun
  | [d] => { results := [.lit (.bool false)], args := [d] }
  | _ => none }
def PhoneticKeysWrongFalsely : Prop := phoneticKeysRow.holds Tryd.pinned (OpenSpec.ofChange phoneticKeysWrong)

/- THE SECOND FORM. 'bulk': how many values and letters a reading holds, each counted each time it is reached (what is shared counts as often as it is met; a slice's spare places count too). A statement '..UptoSaid' is the law's where the arguments, and the package variables that the reading takes, are together of bulk at most 1048576: NARROWER than '..Said'. Prove '..Said' where nothing that the law and all that it calls make is longer than what came in: it says more and counts as full. Else prove '..UptoSaid'. A law counts once. -/
mutual
def uptoBulk {H : Type} : DataW H → Nat
  | .lit (.string bytes) => bytes.length + 1
  | .lit _ => 1
  | .nil => 1
  | .ptr d => uptoBulk d + 1
  | .slice elems spare => uptoBulkAll elems + uptoBulkAll spare + 1
  | .agg parts => uptoBulkAll parts + 1
  | .iface _ d => uptoBulk d + 1
  | .map entries => uptoBulkEntries entries + 1
  | .held _ => 1
def uptoBulkAll {H : Type} : List (DataW H) → Nat
  | [] => 0
  | d :: r => uptoBulk d + uptoBulkAll r
def uptoBulkEntries {H : Type} : List (Lit × DataW H) → Nat
  | [] => 0
  | x :: r => uptoBulkEntry x + uptoBulkEntries r
def uptoBulkEntry {H : Type} : Lit × DataW H → Nat
  | (.string bytes, d) => bytes.length + uptoBulk d + 1
  | (_, d) => uptoBulk d + 1
 end
def uptoSmall : (H : Type) → List (DataW H) → Bool := fun _ ds => decide (uptoBulkAll ds ≤ 1048576)
def OpenSpec.upto (s : _root_.Go.ChangeSpec) : _root_.Go.OpenSpec := { _root_.Go.OpenSpec.ofChange s with cond := some uptoSmall }

/-- 'recordlinklaw06.PhoneticExact', WHERE WHAT IT READS IS OF BULK AT MOST 1048576: true; the input reads as it did. -/
def phoneticExactUptoRow : OpenClaim := { program := "ytblkebjfnboclaadoor", sum := "d244d467346912b1c82ca95a5f0ca0e7195323e1e30a241d299c343adfa2b250", func := "recordlink/recordlinklaw06.PhoneticExact", spec := "phoneticExact", inPlace := ["internal/abi.NoEscape", "internal/bytealg.CountString", "internal/bytealg.IndexByteString", "internal/bytealg.IndexString"], named := ["unicode/utf8.first", "unicode/utf8.acceptRanges", "internal/bytealg.MaxLen"], apart := false, laid := [("unicode/utf8.acceptRanges", laid_unicode_utf8_acceptRanges), ("unicode/utf8.first", laid_unicode_utf8_first)], narrowed := true }
def PhoneticExactUptoSaid : Prop := phoneticExactUptoRow.holds Tryd.pinned (OpenSpec.upto phoneticExactSpec)

/-- 'recordlinklaw06.PhoneticDoubles', WHERE WHAT IT READS IS OF BULK AT MOST 1048576: true; the input reads as it did. -/
def phoneticDoublesUptoRow : OpenClaim := { program := "ytblkebjfnboclaadoor", sum := "d244d467346912b1c82ca95a5f0ca0e7195323e1e30a241d299c343adfa2b250", func := "recordlink/recordlinklaw06.PhoneticDoubles", spec := "phoneticDoubles", inPlace := ["internal/abi.NoEscape", "internal/bytealg.CountString", "internal/bytealg.IndexByteString", "internal/bytealg.IndexString"], named := ["unicode/utf8.first", "unicode/utf8.acceptRanges", "internal/bytealg.MaxLen"], apart := false, laid := [("unicode/utf8.acceptRanges", laid_unicode_utf8_acceptRanges), ("unicode/utf8.first", laid_unicode_utf8_first)], narrowed := true }
def PhoneticDoublesUptoSaid : Prop := phoneticDoublesUptoRow.holds Tryd.pinned (OpenSpec.upto phoneticDoublesSpec)

/-- 'recordlinklaw06.PhoneticSilent', WHERE WHAT IT READS IS OF BULK AT MOST 1048576: true; the input reads as it did. -/
def phoneticSilentUptoRow : OpenClaim := { program := "ytblkebjfnboclaadoor", sum := "d244d467346912b1c82ca95a5f0ca0e7195323e1e30a241d299c343adfa2b250", func := "recordlink/recordlinklaw06.PhoneticSilent", spec := "phoneticSilent", inPlace := ["internal/abi.NoEscape", "internal/bytealg.CountString", "internal/bytealg.IndexByteString", "internal/bytealg.IndexString"], named := ["unicode/utf8.first", "unicode/utf8.acceptRanges", "internal/bytealg.MaxLen"], apart := false, laid := [("unicode/utf8.acceptRanges", laid_unicode_utf8_acceptRanges), ("unicode/utf8.first", laid_unicode_utf8_first)], narrowed := true }
def PhoneticSilentUptoSaid : Prop := phoneticSilentUptoRow.holds Tryd.pinned (OpenSpec.upto phoneticSilentSpec)

/-- 'recordlinklaw06.PhoneticShape', WHERE WHAT IT READS IS OF BULK AT MOST 1048576: true; the input reads as it did. -/
def phoneticShapeUptoRow : OpenClaim := { program := "ytblkebjfnboclaadoor", sum := "d244d467346912b1c82ca95a5f0ca0e7195323e1e30a241d299c343adfa2b250", func := "recordlink/recordlinklaw06.PhoneticShape", spec := "phoneticShape", inPlace := ["internal/abi.NoEscape", "internal/bytealg.CountString", "internal/bytealg.IndexByteString", "internal/bytealg.IndexString"], named := ["unicode/utf8.first", "unicode/utf8.acceptRanges", "internal/bytealg.MaxLen"], apart := false, laid := [("unicode/utf8.acceptRanges", laid_unicode_utf8_acceptRanges), ("unicode/utf8.first", laid_unicode_utf8_first)], narrowed := true }
def PhoneticShapeUptoSaid : Prop := phoneticShapeUptoRow.holds Tryd.pinned (OpenSpec.upto phoneticShapeSpec)

/-- 'recordlinklaw06.PhoneticKeys', WHERE WHAT IT READS IS OF BULK AT MOST 1048576: true; the input reads as it did. -/
def phoneticKeysUptoRow : OpenClaim := { program := "ytblkebjfnboclaadoor", sum := "d244d467346912b1c82ca95a5f0ca0e7195323e1e30a241d299c343adfa2b250", func := "recordlink/recordlinklaw06.PhoneticKeys", spec := "phoneticKeys", inPlace := ["internal/abi.NoEscape", "internal/bytealg.CountString", "internal/bytealg.IndexByteString", "internal/bytealg.IndexString"], named := ["unicode/utf8.first", "unicode/utf8.acceptRanges", "internal/bytealg.MaxLen"], apart := false, laid := [("unicode/utf8.acceptRanges", laid_unicode_utf8_acceptRanges), ("unicode/utf8.first", laid_unicode_utf8_first)], narrowed := true }
def PhoneticKeysUptoSaid : Prop := phoneticKeysUptoRow.holds Tryd.pinned (OpenSpec.upto phoneticKeysSpec)

end Rows
end Go.Proofs.YtblkebjfnboclaaDoor
