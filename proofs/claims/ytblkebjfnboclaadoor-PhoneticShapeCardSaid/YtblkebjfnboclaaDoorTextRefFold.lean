/- The walk of the reference's Fold. -/
import Derived.Test.YtblkebjfnboclaaDoorTextRef
namespace Go.Proofs.YtblkebjfnboclaaDoor
open Go.RowKit
set_option maxRecDepth 100000

/-- string([]byte{x}): the one cell of the new block. -/
theorem conv1 (W : World) (c : UInt8) (x : Int) (h : x = (c.toNat : Int)) :
    (convert 40 9 (.slice (some ⟨W.heap.size, 0, none⟩) 1 1)).run Tryd.prog (W.alloc (.cells #[.int .u8 x] 5)) = .ok (.string ⟨#[c]⟩) (W.alloc (.cells #[.int .u8 x] 5)) := by
  subst h
  refine run_convert_bytes_back (W.alloc (.cells #[.int .u8 (c.toNat : Int)] 5)) 40 9 5 ⟨W.heap.size, 0, none⟩ 1 [c] Tryd.underlying40 Tryd.underlying5 Tryd.underlying9 ?_
  intro j hj
  match j, hj with
  | 0, _ => simp [Addr.add]

theorem ok_small (s : ByteArray) (k : Nat) (h : k < s.size) (hp : s[k].toNat ≠ 195) (ho : TM.ok (s.data.toList.drop k) = true) : s[k].toNat ≤ 126 := by
  rw [drop_at s k h] at ho
  by_cases hpl : TM.plain s[k] = true
  · unfold TM.plain at hpl; simp at hpl; omega
  · exfalso
    cases ht : s.data.toList.drop (k + 1) <;> rw [ht] at ho <;> simp [TM.ok, hpl, hp] at ho

theorem data_add (a b : ByteArray) : (a ++ b).data.toList = a.data.toList ++ b.data.toList := by simp
theorem size_add (a b : ByteArray) : (a ++ b).size = a.size + b.size := by simp
theorem empty_list (so : ByteArray) (h : (!so.toList.isEmpty) = false) : so.data.toList = [] := by
  rw [Lib.toList_data] at h; simpa using h
theorem full_list (so : ByteArray) (h : (!so.toList.isEmpty) = true) : so.data.toList ≠ [] := by
  rw [Lib.toList_data] at h; simpa using h
theorem put_sep {sep : Bool} {so r : ByteArray} {a : List UInt8} (hr : r.data.toList = a) (ha : a ≠ []) (hs : sep = true) (h : (!so.toList.isEmpty) = true) : TM.put sep so.data.toList a = (false, (so ++ ⟨#[32]⟩ ++ r).data.toList) := by
  unfold TM.put
  rw [if_neg ha, if_pos ⟨hs, full_list so h⟩, data_add, data_add, hr]
theorem put_first {sep : Bool} {so r : ByteArray} {a : List UInt8} (hr : r.data.toList = a) (ha : a ≠ []) (h : (!so.toList.isEmpty) = false) : TM.put sep so.data.toList a = (false, (so ++ r).data.toList) := by
  unfold TM.put
  rw [if_neg ha, if_neg (by rw [empty_list so h]; simp), data_add, hr]
theorem put_on {sep : Bool} {so r : ByteArray} {a : List UInt8} (hr : r.data.toList = a) (ha : a ≠ []) (hs : ¬ sep = true) : TM.put sep so.data.toList a = (false, (so ++ r).data.toList) := by
  unfold TM.put
  rw [if_neg ha, if_neg (fun h => hs h.1), data_add, hr]
theorem put_nothing {sep : Bool} {so : ByteArray} {a : List UInt8} (ha : a = []) : TM.put sep so.data.toList a = (sep, so.data.toList) := by
  unfold TM.put
  rw [if_pos ha]
theorem next_of {L L' M : List UInt8} {sep sep' : Bool} {so so' : ByteArray} {a : List UInt8} (h : TM.rf sep so.data.toList L = M) (hs : TM.rf sep so.data.toList L = TM.rf (TM.put sep so.data.toList a).1 (TM.put sep so.data.toList a).2 L')
    (hp : TM.put sep so.data.toList a = (sep', so'.data.toList)) : TM.rf sep' so'.data.toList L' = M := by
  rw [← h, hs, hp]

theorem rf_upper (sep : Bool) (o : List UInt8) (c : UInt8) (t : List UInt8) (h : 65 ≤ (c.toNat : Int) ∧ (c.toNat : Int) ≤ 90) : TM.rf sep o (c :: t) = TM.rf (TM.put sep o [c + 32]).1 (TM.put sep o [c + 32]).2 t := by
  have hu : TM.upper c = true := by simp [TM.upper]; omega
  rw [TM.rf_one _ _ _ _ (by omega), if_pos hu]
theorem rf_same (sep : Bool) (o : List UInt8) (c : UInt8) (t : List UInt8) (h : (97 ≤ (c.toNat : Int) ∧ (c.toNat : Int) ≤ 122) ∨ (48 ≤ (c.toNat : Int) ∧ (c.toNat : Int) ≤ 57)) : TM.rf sep o (c :: t) = TM.rf (TM.put sep o [c]).1 (TM.put sep o [c]).2 t := by
  have hu : ¬ TM.upper c = true := by simp [TM.upper]; omega
  have hd : (TM.lower c || TM.digit c) = true := by simp [TM.lower, TM.digit]; omega
  rw [TM.rf_one _ _ _ _ (by omega), if_neg hu, if_pos hd]
theorem rf_rest (sep : Bool) (o : List UInt8) (c : UInt8) (t : List UInt8) (h0 : c.toNat ≠ 195) (h : ¬ (65 ≤ (c.toNat : Int) ∧ (c.toNat : Int) ≤ 90) ∧ ¬ (97 ≤ (c.toNat : Int) ∧ (c.toNat : Int) ≤ 122) ∧ ¬ (48 ≤ (c.toNat : Int) ∧ (c.toNat : Int) ≤ 57)) :
    TM.rf sep o (c :: t) = if c.toNat = 39 then TM.rf sep o t else TM.rf true o t := by
  have hu : ¬ TM.upper c = true := by simp [TM.upper]; omega
  have hd : ¬ (TM.lower c || TM.digit c) = true := by simp [TM.lower, TM.digit]; omega
  rw [TM.rf_one _ _ _ _ h0, if_neg hu, if_neg hd]

end Go.Proofs.YtblkebjfnboclaaDoor
