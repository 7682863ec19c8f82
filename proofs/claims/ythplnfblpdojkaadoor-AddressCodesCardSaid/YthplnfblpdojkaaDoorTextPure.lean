/- Walks of the small functions of layer 1 that only compute: isLetter, startsPair, Valid; the reference's Valid, replacement. -/
import Derived.Test.YthplnfblpdojkaaDoorTextMath
import Derived.Test.YthplnfblpdojkaaDoorProg
import Derived.WalkKit
import Derived.WalkSpells
import Derived.WalkLawsBesides
import Derived.Lib.Hide
import Derived.Lib.Strings
namespace Go.Proofs.YthplnfblpdojkaaDoor
open Go.RowKit
set_option maxRecDepth 100000

theorem ret_bool {a b : Bool} (h : a = b) : Ending.returned (.bool a) = .returned (.bool b) := by rw [h]
theorem ret_str {a b : ByteArray} (h : a = b) : Ending.returned (.string a) = .returned (.string b) := by rw [h]
theorem drop_at (s : ByteArray) (k : Nat) (h : k < s.size) : s.data.toList.drop k = s[k] :: s.data.toList.drop (k + 1) := by
  rw [List.drop_eq_getElem_cons (by simpa using h)]; rfl
theorem drop_end (s : ByteArray) (k : Nat) (h : s.size ≤ k) : s.data.toList.drop k = [] := by
  rw [List.drop_eq_nil_iff]; simpa using h
theorem extract_list (s : ByteArray) (k : Nat) : (s.extract k s.size).data.toList = s.data.toList.drop k := by
  rw [Lib.extract_data, List.take_of_length_le (by simp)]

def startsB (s : ByteArray) : Bool := TM.starts s.data.toList
def validB (s : ByteArray) : Bool := TM.valid s.data.toList

set_option maxHeartbeats 400000 in
theorem isLetter_any (c : UInt8) (w : World) :
    Calls Tryd.prog 56 #[.int .u8 c.toNat] w fun e w' => e = .returned (.bool (TM.lower c)) ∧ w = w' := by
  have hb := c.toNat_lt
  unfold TM.lower
  go_enter Tryd.func56, Tryd.ntmps56
  go_wp2
  all_goals go_ret
  all_goals exact ⟨ret_bool (by rw [Bool.eq_iff_iff]; simp; omega), rfl⟩

set_option maxHeartbeats 400000 in
theorem startsPair_any (s : ByteArray) (w : World) :
    Calls Tryd.prog 53 #[.string s] w fun e w' => e = .returned (.bool (startsB s)) ∧ w = w' := by
  have e2 : ∀ h : 1 < s.size, startsB s = (s[0].toNat == 195 && TM.second s[1]) := fun h => by
    unfold startsB
    have h0 := drop_at s 0 (by omega)
    have h1 := drop_at s 1 (by omega)
    simp only [List.drop_zero, Nat.zero_add] at h0
    rw [h0, h1]
    rfl
  have e1 : s.size < 2 → startsB s = false := fun h => by
    unfold startsB
    by_cases h0 : 0 < s.size
    · have g0 := drop_at s 0 h0
      have g1 := drop_end s 1 (by omega)
      simp only [List.drop_zero, Nat.zero_add] at g0
      rw [g0, g1]
      rfl
    · have g0 := drop_end s 0 (by omega)
      simp only [List.drop_zero] at g0
      rw [g0]
      rfl
  have E2 := Lib.hid e2
  have E1 := Lib.hid e1
  clear e1 e2
  go_enter Tryd.func53, Tryd.ntmps53
  go_wp2
  all_goals go_ret
  · exact ⟨ret_bool (by rw [E2.out (by omega)]; unfold TM.second; rw [Bool.eq_iff_iff]; simp; omega), rfl⟩
  · exact ⟨ret_bool (by rw [E2.out (by omega)]; unfold TM.second; rw [Bool.eq_iff_iff]; simp; omega), rfl⟩
  · exact ⟨ret_bool (by rw [E2.out (by omega)]; unfold TM.second; rw [Bool.eq_iff_iff]; simp; omega), rfl⟩
  · exact ⟨ret_bool (by rw [E1.out (by omega)]), rfl⟩

theorem starts_drop (s : ByteArray) (k : Nat) : startsB (s.extract k s.size) = TM.starts (s.data.toList.drop k) := by unfold startsB; rw [extract_list]
theorem starts_two (s : ByteArray) (k : Nat) (h : startsB (s.extract k s.size) = true) : k + 1 < s.size := by
  rw [starts_drop] at h
  rcases Nat.lt_or_ge (k + 1) s.size with h' | h'
  · exact h'
  · exfalso
    by_cases h0 : k < s.size
    · rw [drop_at s k h0, drop_end s (k + 1) h'] at h
      simp [TM.starts] at h
    · rw [drop_end s k (by omega)] at h
      simp [TM.starts] at h

theorem ok_step1 (s : ByteArray) (k : Nat) (h : k < s.size) (h1 : 32 ≤ (s[k].toNat : Int)) (h2 : (s[k].toNat : Int) ≤ 126) : TM.ok (s.data.toList.drop (k + 1)) = TM.ok (s.data.toList.drop k) := by
  rw [drop_at s k h, TM.ok_plain _ _ (by omega) (by omega)]
theorem ok_step2 (s : ByteArray) (k : Nat) (h : startsB (s.extract k s.size) = true) : TM.ok (s.data.toList.drop (k + 2)) = TM.ok (s.data.toList.drop k) := by
  have h2 := starts_two s k h
  rw [starts_drop, drop_at s k (by omega), drop_at s (k + 1) h2] at h
  rw [drop_at s k (by omega), drop_at s (k + 1) h2, TM.ok_pair _ _ _ h]
theorem ok_stop (s : ByteArray) (k : Nat) (h : k < s.size) (h1 : (s[k].toNat : Int) < 32 ∨ 126 < (s[k].toNat : Int)) (hs : startsB (s.extract k s.size) = false) : TM.ok (s.data.toList.drop k) = false := by
  rw [starts_drop, drop_at s k h] at hs
  rw [drop_at s k h, TM.ok_not _ _ (by omega) hs]

set_option maxHeartbeats 400000 in
theorem Valid_any (s : ByteArray) (w : World) (hm : s.size ≤ maxLen) :
    Calls Tryd.prog 41 #[.string s] w fun e w' => e = .returned (.bool (validB s)) ∧ w = w' := by
  unfold maxLen at hm
  by_cases h64 : 64 < s.size
  · have e : validB s = false := by simp [validB, TM.valid]; intro h; omega
    have E := Lib.hid e
    clear e
    go_enter Tryd.func41, Tryd.ntmps41
    go_wp2
    go_ret
    exact ⟨ret_bool (by rw [E.out]), rfl⟩
  · have e : validB s = TM.ok s.data.toList := by
      simp [validB, TM.valid]
      omega
    have E := Lib.hid e
    clear e
    go_enter Tryd.func41, Tryd.ntmps41
    go_wp2
    go_loop [3] (fun i => ∃ k : Nat, k ≤ s.size ∧ i = .int .i64 k ∧ TM.ok (s.data.toList.drop k) = TM.ok s.data.toList) (fun i => s.size - (intOf i).toNat)
    case atStart => exact ⟨0, by omega, rfl, rfl⟩
    case round =>
      obtain ⟨k, hk, rfl, hr⟩ := hrel
      have HR := Lib.hid hr
      clear hr
      go_wp2_with (go_at_call 53; refine (startsPair_any _ _).mono ?_; rintro e w' ⟨rfl, rfl⟩)
      · exact ⟨⟨k + 1, by omega, by go_num, (ok_step1 s k (by omega) (by omega) (by omega)).trans HR.out⟩, by simp [intOf]; omega⟩
      · have h2 := starts_two s k (by assumption)
        exact ⟨⟨k + 2, by omega, by go_num, (ok_step2 s k (by assumption)).trans HR.out⟩, by simp [intOf]; omega⟩
      · go_ret
        exact ⟨ret_bool (by rw [E.out, ← HR.out, ok_stop s k (by omega) (by omega) (by assumption)]), rfl⟩
      · have h2 := starts_two s k (by assumption)
        exact ⟨⟨k + 2, by omega, by go_num, (ok_step2 s k (by assumption)).trans HR.out⟩, by simp [intOf]; omega⟩
      · go_ret
        exact ⟨ret_bool (by rw [E.out, ← HR.out, ok_stop s k (by omega) (by omega) (by assumption)]), rfl⟩
      · go_ret
        exact ⟨ret_bool (by rw [E.out, ← HR.out, drop_end s k (by omega)]; rfl), rfl⟩
end Go.Proofs.YthplnfblpdojkaaDoor
