/- What a world of this program holds of its package-level variables (a seat without the table of replacements); the walk of Letters. -/
import Derived.Test.YtblkebjfnboclaaDoorTextPure
import Derived.Test.YtblkebjfnboclaaDoorShelf
import Derived.ShutString
namespace Go.Proofs.YtblkebjfnboclaaDoor
open Go.RowKit
set_option maxRecDepth 100000

/-- A number in the library's own variable. -/
structure Env (w : World) : Prop where
  maxLen : ∃ m : Int, w.cell? ⟨0, 0, none⟩ = some (.int .i64 m)
  size : 3 ≤ w.heap.size

theorem Env.below {w w' : World} (h : Env w) {B : Nat} (hb : Below B w w') (hB : 3 ≤ B) : Env w' where
  maxLen := by
    obtain ⟨m, hm⟩ := h.maxLen
    exact ⟨m, (hb.cell (p := ⟨_, _, none⟩) (Nat.lt_of_lt_of_le (show 0 < 3 by decide) hB)).trans hm⟩
  size := Nat.le_trans h.size hb.size
theorem Env.alloc {w : World} (h : Env w) (o : Obj) : Env (w.alloc o) := h.below (B := w.heap.size) ((Below.refl _ w).alloc (Nat.le_refl _) o) h.size

set_option maxHeartbeats 1000000 in
theorem Letters_any (s : ByteArray) (w : World) (hsz : s.size ≤ 1048576) :
    Calls Tryd.prog 35 #[.string s] w fun e w' => e = .returned (.string ⟨(s.data.toList.filter TM.lower).toArray⟩) ∧ Below w.heap.size w w' := by
  go_enter Tryd.func35, Tryd.ntmps35
  go_wp2
  go_loopw [4] (fun i wr => ∃ (k : Nat) (acc : List UInt8), k ≤ s.size ∧ i = .int .i64 k ∧ acc.length ≤ k ∧ acc ++ (s.data.toList.drop k).filter TM.lower = s.data.toList.filter TM.lower ∧
      Lib.IsBuilder 51 5 w.heap.size w.heap.size (Lib.byteCells acc) wr ∧ Below w.heap.size w wr) (fun i _ => s.size - (intOf i).toNat)
  case atStart => exact ⟨0, [], by omega, rfl, by simp, rfl, Lib.fresh_isBuilder 51 5 w, (Below.refl _ w).alloc (Nat.le_refl _) _⟩
  case round =>
    obtain ⟨k, acc, hk, rfl, hl, hacc, hI, hbw⟩ := hrel
    have HA := Lib.hid hacc
    clear hacc
    by_cases hlt : k < s.size
    · have HS := Lib.hid (show (s.data.toList.drop k).filter TM.lower = (if TM.lower s[k] then [s[k]] else []) ++ (s.data.toList.drop (k + 1)).filter TM.lower by
        rw [drop_at s k hlt, List.filter_cons]; split <;> rfl)
      go_wp2_with (first
        | (go_at_call 37; refine (isLetter_any _ _).mono ?_; rintro e w' ⟨rfl, rfl⟩)
        | (go_at_call 38; refine (Tryd.Builder_WriteByte w.heap.size w.heap.size _ _ _ hI (by rw [Lib.byteCells_length]; omega) hbw.size).mono ?_; rintro e W1 ⟨rfl, h1, b1⟩))
      · refine ⟨⟨k + 1, acc ++ [s[k]], by omega, by go_num, by simp; omega, ?_, ?_, hbw.trans b1⟩, by simp [intOf]; omega⟩
        · rw [← HA.out, HS.out, if_pos (by assumption)]; simp
        · rw [Lib.byteCells_append]; exact Or.inr h1
      · refine ⟨⟨k + 1, acc, by omega, by go_num, by omega, ?_, hI, hbw⟩, by simp [intOf]; omega⟩
        rw [← HA.out, HS.out, if_neg (by have h := ‹TM.lower s[k] = false›; simp [h])]; simp
    · have hge : s.size ≤ k := by omega
      go_wp2_with (go_at_call 39; refine (Tryd.Builder_String_any w.heap.size w.heap.size acc _ hI hbw.size).mono ?_)
      rintro e W1 ⟨rfl, b1⟩
      go_wp2
      go_ret
      refine ⟨ret_str ?_, hbw.trans b1⟩
      have := HA.out
      rw [drop_end s k hge, List.filter_nil, List.append_nil] at this
      rw [this]
end Go.Proofs.YtblkebjfnboclaaDoor
