/- THE PROGRAM's OWN siphash: the contracts of Sum, Parts, Derive. (Its package-level variables: none.) -/
import Derived.Test.YtlcfpdbiippenaaSipDerP
namespace Go.Proofs.Ytlcfpdbiippenaa
open Go.RowKit
set_option linter.unusedVariables false
set_option maxRecDepth 100000

/-- What the program's own package-level variables hold: none so far. -/
def PEnv (_ : World) : Prop := True
theorem PEnv.below {B : Nat} {w w' : World} (_ : PEnv w) (_ : Below B w w') (_ : w.heap.size ≤ B) : PEnv w' := trivial
theorem PEnv.alloc {w : World} (_ : PEnv w) (u : Obj) : PEnv (w.alloc u) := trivial
theorem PEnv.grown {w w' : World} {g : Nat} (_ : PEnv w) (_ : w.grownBy w' (some g)) : PEnv w' := trivial

theorem Sum_any (B : Nat) (kA kB : UInt64) (v : Value) (l : List UInt8) (w : World) (_ : PEnv w) (hv : IsBs B w v l) (hB : B ≤ w.heap.size) (hl : l.length ≤ 1000000) :
    Calls Try.prog 13 #[keyV kA kB, v] w fun e w' => e = .returned (.int .u64 (n64 (SM.sum kA kB l))) ∧ Below w.heap.size w w' :=
  sSum_any B kA kB v l w hv hB (by omega)
theorem Parts_any (B : Nat) (kA kB : UInt64) (v : Value) (xs : List ByteArray) (w : World) (_ : PEnv w) (hv : IsTexts B w v xs) (hB : B ≤ w.heap.size) (hl : xs.length ≤ 1000) (hz : ∀ x ∈ xs, x.size ≤ maxLen) :
    Calls Try.prog 15 #[keyV kA kB, v] w fun e w' => e = .returned (.int .u64 (n64 (ptV kA kB xs))) ∧ Below w.heap.size w w' :=
  sParts_any B kA kB v xs w hv hB hl hz
theorem Derive_any (kA kB : UInt64) (label : ByteArray) (w : World) (_ : PEnv w) (hl : label.size ≤ maxLen) :
    Calls Try.prog 17 #[keyV kA kB, .string label] w fun e w' => e = .returned (derV kA kB label) ∧ Below w.heap.size w w' :=
  sDerive_any kA kB label w hl
end Go.Proofs.Ytlcfpdbiippenaa
