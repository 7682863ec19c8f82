/- Raw texts that a deck deals; a dressed text. -/
import Derived.Test.YtblkebjfnboclaaDoorDeck
namespace Go.Proofs.YtblkebjfnboclaaDoor
open Go.RowKit
set_option maxRecDepth 100000

theorem Pick_lit (g : Nat) (w : World) (xs : List ByteArray) (h : Deck g w) (hne : xs ≠ []) (hl : xs.length ≤ 1000) :
    Calls Tryd.prog 21 #[.pointer (some ⟨g, 0, none⟩), .slice (some ⟨w.heap.size, 0, none⟩) xs.length xs.length] (w.alloc (.cells (xs.map Value.string).toArray 9)) fun e w' => ∃ s ∈ xs, e = .returned (.string s) ∧ Deck g w' ∧ w.grownBy w' (some g) :=
  (Pick_any g (w.heap.size + 1) _ xs _ (texts_lit w xs (by unfold maxLen; omega)) (h.alloc _) (by simp) hne hl).mono fun _ _ ⟨s, hs, he, hd, hg⟩ => ⟨s, hs, he, hd, grown_trans (grown_alloc (grown_refl w _) _) hg⟩

theorem low_size {s : ByteArray} (h : lowB s = true) : s.size ≤ 8 := by
  unfold lowB at h
  simp at h
  exact h.1.2
end Go.Proofs.YtblkebjfnboclaaDoor
