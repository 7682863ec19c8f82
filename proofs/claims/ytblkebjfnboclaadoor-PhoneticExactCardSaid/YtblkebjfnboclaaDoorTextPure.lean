/- Walks of the small functions of layer 1 that only compute: isLetter, startsPair, Valid; the reference's Valid, replacement. -/
import Derived.Test.YtblkebjfnboclaaDoorTextMath
import Derived.Test.YtblkebjfnboclaaDoorProg
import Derived.WalkKit
import Derived.WalkSpells
import Derived.WalkLawsBesides
import Derived.Lib.Hide
import Derived.Lib.Strings
namespace Go.Proofs.YtblkebjfnboclaaDoor
open Go.RowKit
set_option maxRecDepth 100000

theorem ret_bool {a b : Bool} (h : a = b) : Ending.returned (.bool a) = .returned (.bool b) := by rw [h]
theorem ret_str {a b : ByteArray} (h : a = b) : Ending.returned (.string a) = .returned (.string b) := by rw [h]
theorem drop_at (s : ByteArray) (k : Nat) (h : k < s.size) : s.data.toList.drop k = s[k] :: s.data.toList.drop (k + 1) := by
  rw [List.drop_eq_getElem_cons (by simpa using h)]; rfl
theorem drop_end (s : ByteArray) (k : Nat) (h : s.size ≤ k) : s.data.toList.drop k = [] := by
  rw [List.drop_eq_nil_iff]; simpa using h
theorem extract_list (s : ByteArray) (k : Nat) : (s.extract k s.size).data.toList = s.data.toList.drop k := by
  rw [Lib.extract_data, List.take_of_length_le (by simp)]

def startsB (s : ByteArray) : Bool := TM.starts s.data.toList
def validB (s : ByteArray) : Bool := TM.valid s.data.toList

set_option maxHeartbeats 400000 in
theorem isLetter_any (c : UInt8) (w : World) :
    Calls Tryd.prog 37 #[.int .u8 c.toNat] w fun e w' => e = .returned (.bool (TM.lower c)) ∧ w = w' := by
  have hb := c.toNat_lt
  unfold TM.lower
  go_enter Tryd.func37, Tryd.ntmps37
  go_wp2
  all_goals go_ret
  all_goals exact ⟨ret_bool (by rw [Bool.eq_iff_iff]; simp; omega), rfl⟩

theorem starts_drop (s : ByteArray) (k : Nat) : startsB (s.extract k s.size) = TM.starts (s.data.toList.drop k) := by unfold startsB; rw [extract_list]
theorem starts_two (s : ByteArray) (k : Nat) (h : startsB (s.extract k s.size) = true) : k + 1 < s.size := by
  rw [starts_drop] at h
  rcases Nat.lt_or_ge (k + 1) s.size with h' | h'
  · exact h'
  · exfalso
    by_cases h0 : k < s.size
    · rw [drop_at s k h0, drop_end s (k + 1) h'] at h
      simp [TM.starts] at h
    · rw [drop_end s k (by omega)] at h
      simp [TM.starts] at h

theorem ok_step1 (s : ByteArray) (k : Nat) (h : k < s.size) (h1 : 32 ≤ (s[k].toNat : Int)) (h2 : (s[k].toNat : Int) ≤ 126) : TM.ok (s.data.toList.drop (k + 1)) = TM.ok (s.data.toList.drop k) := by
  rw [drop_at s k h, TM.ok_plain _ _ (by omega) (by omega)]
theorem ok_step2 (s : ByteArray) (k : Nat) (h : startsB (s.extract k s.size) = true) : TM.ok (s.data.toList.drop (k + 2)) = TM.ok (s.data.toList.drop k) := by
  have h2 := starts_two s k h
  rw [starts_drop, drop_at s k (by omega), drop_at s (k + 1) h2] at h
  rw [drop_at s k (by omega), drop_at s (k + 1) h2, TM.ok_pair _ _ _ h]
theorem ok_stop (s : ByteArray) (k : Nat) (h : k < s.size) (h1 : (s[k].toNat : Int) < 32 ∨ 126 < (s[k].toNat : Int)) (hs : startsB (s.extract k s.size) = false) : TM.ok (s.data.toList.drop k) = false := by
  rw [starts_drop, drop_at s k h] at hs
  rw [drop_at s k h, TM.ok_not _ _ (by omega) hs]

end Go.Proofs.YtblkebjfnboclaaDoor
