/- A new deck; short lists. -/
import Derived.Test.YtblkebjfnboclaaDoorDeckText
namespace Go.Proofs.YtblkebjfnboclaaDoor
open Go.RowKit
set_option maxRecDepth 100000

/-- A slice of integers that came in. -/
def IntsArg (w : World) (A : Option Addr) (n c : Nat) : Prop := n ≤ c ∧ c ≤ maxLen ∧
  ∀ j, j < n → ∃ b o x, A = some ⟨b, o, none⟩ ∧ b < w.heap.size ∧ w.cell? ⟨b, o + j, none⟩ = some (.int .i64 x) ∧ -9223372036854775808 ≤ x ∧ x ≤ 9223372036854775807
theorem IntsArg.below {w w' : World} {A : Option Addr} {n c : Nat} (h : IntsArg w A n c) (hb : Below w.heap.size w w') : IntsArg w' A n c :=
  ⟨h.1, h.2.1, fun j hj => by
    obtain ⟨b, o, x, ha, hlt, hc, hx⟩ := h.2.2 j hj
    exact ⟨b, o, x, ha, Nat.lt_of_lt_of_le hlt hb.size, (hb.cell (p := ⟨b, o + j, none⟩) hlt).trans hc, hx⟩⟩

set_option maxHeartbeats 400000 in
theorem New_any (A : Option Addr) (n c : Nat) (w : World) (h : IntsArg w A n c) :
    Calls Tryd.prog 11 #[.slice A n c] w fun e w' => e = .returned (.pointer (some ⟨w.heap.size, 0, none⟩)) ∧ Deck w.heap.size w' ∧ Below w.heap.size w w' := by
  have HI := Lib.hid h
  clear h
  go_enter Tryd.func11, Tryd.ntmps11
  go_wp2
  go_ret
  refine ⟨rfl, ?_, (Below.refl _ w).alloc (Nat.le_refl _) _⟩
  obtain ⟨h1, h2, h3⟩ := HI.out
  refine ⟨A, n, c, 0, 11400714819323198485, heap_alloc_new w _, Nat.zero_le _, h1, h2, by decide, fun j hj => ?_⟩
  obtain ⟨b, o, x, ha, hlt, hc, hx⟩ := h3 j hj
  exact ⟨b, o, x, ha, hlt, (((Below.refl w.heap.size w).alloc (Nat.le_refl _) _).cell (p := ⟨b, o + j, none⟩) hlt).trans hc, hx⟩

set_option maxHeartbeats 400000 in
theorem Few_any (A : Option Addr) (n c : Nat) (w : World) (h : n ≤ maxLen) :
    Calls Tryd.prog 9 #[.slice A n c] w fun e w' => e = .returned (.bool (decide (n ≤ 400))) ∧ w = w' := by
  unfold maxLen at h
  go_enter Tryd.func9, Tryd.ntmps9
  go_wp2
  go_ret
  exact ⟨ret_bool (by rw [Bool.eq_iff_iff]; simp; omega), rfl⟩

end Go.Proofs.YtblkebjfnboclaaDoor
