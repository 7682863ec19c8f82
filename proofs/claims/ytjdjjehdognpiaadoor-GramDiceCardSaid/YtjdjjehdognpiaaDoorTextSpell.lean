/- What a world of this program holds of its package-level variables (a seat without the table of replacements). -/
import Derived.Test.YtjdjjehdognpiaaDoorTextPure
import Derived.Test.YtjdjjehdognpiaaDoorShelf
import Derived.ShutString
namespace Go.Proofs.YtjdjjehdognpiaaDoor
open Go.RowKit
set_option maxRecDepth 100000

/-- A number in the library's own variable. -/
structure Env (w : World) : Prop where
  maxLen : ∃ m : Int, w.cell? ⟨0, 0, none⟩ = some (.int .i64 m)
  size : 3 ≤ w.heap.size

theorem Env.below {w w' : World} (h : Env w) {B : Nat} (hb : Below B w w') (hB : 3 ≤ B) : Env w' where
  maxLen := by
    obtain ⟨m, hm⟩ := h.maxLen
    exact ⟨m, (hb.cell (p := ⟨_, _, none⟩) (Nat.lt_of_lt_of_le (show 0 < 3 by decide) hB)).trans hm⟩
  size := Nat.le_trans h.size hb.size
theorem Env.alloc {w : World} (h : Env w) (o : Obj) : Env (w.alloc o) := h.below (B := w.heap.size) ((Below.refl _ w).alloc (Nat.le_refl _) o) h.size
end Go.Proofs.YtjdjjehdognpiaaDoor
