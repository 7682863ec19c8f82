/- The walk of the reference's Tokens. -/
import Derived.Test.YthplnfblpdojkaaDoorTextRef2
namespace Go.Proofs.YthplnfblpdojkaaDoor
open Go.RowKit
set_option maxRecDepth 100000

theorem words_nil (p : List UInt8) : TM.words p [] = if p = [] then [] else [p] := rfl
theorem words_sp (p : List UInt8) (c : UInt8) (t : List UInt8) (h : (c.toNat : Int) = 32) : TM.words p (c :: t) = (if p = [] then [] else [p]) ++ TM.words [] t := by
  have h' : c.toNat = 32 := by omega
  by_cases hp : p = [] <;> simp [TM.words, h', hp]
theorem words_ch (p : List UInt8) (c : UInt8) (t : List UInt8) (h : ¬ (c.toNat : Int) = 32) : TM.words p (c :: t) = TM.words (p ++ [c]) t := by
  have h' : ¬ c.toNat = 32 := by omega
  simp [TM.words, h']

/-- What is still to come at place k. -/
def rest (s p : ByteArray) (k : Nat) : List (List UInt8) := if k ≤ s.size then TM.words p.data.toList (s.data.toList.drop k) else []

end Go.Proofs.YthplnfblpdojkaaDoor
