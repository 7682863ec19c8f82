/- What a token is: the program's isToken and the reference's letters. -/
import Derived.Test.YtblkebjfnboclaaDoorPhonPure
import Derived.Test.YtblkebjfnboclaaDoorTextRef2
namespace Go.Proofs.YtblkebjfnboclaaDoor
open Go.RowKit
set_option maxRecDepth 100000

def ptokB (s : ByteArray) : Bool := PM.tok s.data.toList
theorem ptokB_empty (s : ByteArray) (h : (!s.toList.isEmpty) = false) : ptokB s = false := by
  unfold ptokB PM.tok
  rw [empty_list s h]
  rfl
theorem ptokB_long (s : ByteArray) (h : 64 < s.size) : ptokB s = false := by
  have hl : s.data.toList.length = s.size := by simp
  unfold ptokB PM.tok
  rw [hl, show decide (s.size ≤ 64) = false by simp; omega]
  simp
theorem ptokB_full (s : ByteArray) (h : (!s.toList.isEmpty) = true) (hs : s.size ≤ 64) : ptokB s = (s.data.toList.filter TM.lower == s.toList) := by
  have hl : s.data.toList.length = s.size := by simp
  have hn := full_list s h
  have h1 : 1 ≤ s.data.toList.length := by
    rcases Nat.eq_zero_or_pos s.data.toList.length with e | e
    · exact absurd (List.eq_nil_of_length_eq_zero e) hn
    · exact e
  unfold ptokB PM.tok
  rw [show decide (1 ≤ s.data.toList.length) = true by simpa using h1, hl, show decide (s.size ≤ 64) = true by simpa using hs]
  rw [Lib.toList_data, Bool.true_and, Bool.true_and, Bool.eq_iff_iff, List.all_eq_true, beq_iff_eq, List.filter_eq_self]

set_option maxHeartbeats 400000 in
theorem isToken_any (s : ByteArray) (w : World) :
    Calls Tryd.prog 27 #[.string s] w fun e w' => e = .returned (.bool (ptokB s)) ∧ Below w.heap.size w w' := by
  cases h0 : (!s.toList.isEmpty)
  · have E := Lib.hid (ptokB_empty s h0)
    go_enter Tryd.func27, Tryd.ntmps27
    go_wp2
    go_ret
    exact ⟨ret_bool (by rw [E.out]), Below.refl _ _⟩
  · by_cases h64 : s.size ≤ 64
    · have E := Lib.hid (ptokB_full s h0 h64)
      go_enter Tryd.func27, Tryd.ntmps27
      go_wp2_with fail
      refine (Letters_any s w (by omega)).mono ?_
      rintro e w1 ⟨rfl, b1⟩
      go_wp2
      go_ret
      exact ⟨ret_bool (by rw [E.out]), b1⟩
    · have E := Lib.hid (ptokB_long s (by omega))
      go_enter Tryd.func27, Tryd.ntmps27
      go_wp2
      go_ret
      exact ⟨ret_bool (by rw [E.out]), Below.refl _ _⟩
set_option maxHeartbeats 400000 in
theorem rletters_any (s : ByteArray) (w : World) :
    Calls Tryd.prog 30 #[.string s] w fun e w' => e = .returned (.bool (ptokB s)) ∧ w = w' := by
  cases h0 : (!s.toList.isEmpty)
  · have E := Lib.hid (ptokB_empty s h0)
    go_enter Tryd.func30, Tryd.ntmps30
    go_wp2
    go_ret
    exact ⟨ret_bool (by rw [E.out]), rfl⟩
  · by_cases h64 : s.size ≤ 64
    · have E := Lib.hid (ptokB_full s h0 h64)
      go_enter Tryd.func30, Tryd.ntmps30
      go_wp2_with fail
      refine (rLetters_any s w (by omega)).mono ?_
      rintro e w1 ⟨rfl, rfl⟩
      go_wp2
      go_ret
      exact ⟨ret_bool (by rw [E.out]), rfl⟩
    · have E := Lib.hid (ptokB_long s (by omega))
      go_enter Tryd.func30, Tryd.ntmps30
      go_wp2
      go_ret
      exact ⟨ret_bool (by rw [E.out]), rfl⟩

theorem ptok_pos {s : ByteArray} (h : ptokB s = true) : 0 < s.size ∧ s.size ≤ 64 := by
  have hl : s.data.toList.length = s.size := by simp
  have := (PM.tok_iff _).1 h
  omega
end Go.Proofs.YtblkebjfnboclaaDoor
