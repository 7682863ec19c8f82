/- What layer 7 wants of the deck's tokens (a seat without the texts of layer 1): one byte as a text, one byte of a text, tokens. -/
import Derived.Test.YtfcnodiepdnegaaDBase
import Derived.Test.YtfcnodiepdnegaaTextMath
namespace Go.Proofs.Ytfcnodiepdnegaa
open Go.RowKit
set_option maxRecDepth 100000

/-- string([]byte{x}): the one cell of the new block. -/
theorem conv1 (W : World) (c : UInt8) (x : Int) (h : x = (c.toNat : Int)) :
    (convert 63 9 (.slice (some ⟨W.heap.size, 0, none⟩) 1 1)).run Try.prog (W.alloc (.cells #[.int .u8 x] 5)) = .ok (.string ⟨#[c]⟩) (W.alloc (.cells #[.int .u8 x] 5)) := by
  subst h
  refine run_convert_bytes_back (W.alloc (.cells #[.int .u8 (c.toNat : Int)] 5)) 63 9 5 ⟨W.heap.size, 0, none⟩ 1 [c] Try.underlying63 Try.underlying5 Try.underlying9 ?_
  intro j hj
  match j, hj with
  | 0, _ => simp [Addr.add]

theorem extract_one (s : ByteArray) (k : Nat) (h : k < s.size) : s.extract k (k + 1) = ⟨#[s[k]]⟩ := by
  have e := Lib.extract_data s k (k + 1)
  rw [drop_at s k h, Nat.add_sub_cancel_left] at e
  cases hx : s.extract k (k + 1)
  rw [hx] at e
  congr 1
  exact Array.toList_inj.1 (by simpa using e)

theorem below_drewN {B : Nat} {a w : World} (h : Below B a w) (n : Nat) : Below B a (w.drewN n) := ⟨h.os, h.tape, h.output, h.size, h.block⟩

/-- One to eight letters from a to z. -/
def lowB (s : ByteArray) : Bool := decide (1 ≤ s.data.toList.length) && decide (s.data.toList.length ≤ 8) && s.data.toList.all TM.lower

def givenL : List ByteArray := [⟨#[114, 111, 98, 101, 114, 116]⟩, ⟨#[98, 111, 98]⟩, ⟨#[97, 110, 110]⟩, ⟨#[97, 110, 110, 97]⟩, ⟨#[114, 117, 112, 101, 114, 116]⟩, ⟨#[109, 97, 114, 105, 97]⟩, ⟨#[112, 101, 116, 101, 114]⟩, ⟨#[100, 114]⟩, ⟨#[106, 111]⟩, ⟨#[97, 115, 104, 99, 114, 97, 102, 116]⟩, ⟨#[108, 105]⟩]
def familyL : List ByteArray := [⟨#[115, 109, 105, 116, 104]⟩, ⟨#[115, 99, 104, 109, 105, 100, 116]⟩, ⟨#[109, 105, 108, 108, 101, 114]⟩, ⟨#[111, 110, 101, 105, 108, 108]⟩, ⟨#[115, 116, 114, 97, 117, 115, 115]⟩, ⟨#[118, 97, 110]⟩, ⟨#[109, 97, 105, 110]⟩, ⟨#[115, 116]⟩, ⟨#[115, 116, 114, 101, 101, 116]⟩, ⟨#[114, 100]⟩, ⟨#[112, 97, 114, 107]⟩]
theorem given_low : ∀ s ∈ givenL, lowB s = true := by decide
theorem family_low : ∀ s ∈ familyL, lowB s = true := by decide

theorem low_snoc (so : ByteArray) (c : UInt8) (j : Nat) (hj : j < 26) (hn : c.toNat = 97 + j) (h : so.data.toList.all TM.lower = true) : (so ++ ⟨#[c]⟩ : ByteArray).data.toList.all TM.lower = true := by
  rw [data_add, List.all_append, h]
  have hl : TM.lower c = true := by
    unfold TM.lower
    rw [hn]
    simp
    omega
  show (true && ([c] : List UInt8).all TM.lower) = true
  simp only [List.all_cons, List.all_nil, hl, Bool.and_self]

theorem low_size {s : ByteArray} (h : lowB s = true) : s.size ≤ 8 := by
  unfold lowB at h
  simp at h
  exact h.1.2
end Go.Proofs.Ytfcnodiepdnegaa
