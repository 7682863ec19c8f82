/- The walk of the reference's Fold. -/
import Derived.Test.YtjdjjehdognpiaaDoorTextRef
namespace Go.Proofs.YtjdjjehdognpiaaDoor
open Go.RowKit
set_option maxRecDepth 100000

/-- string([]byte{x}): the one cell of the new block. -/
theorem conv1 (W : World) (c : UInt8) (x : Int) (h : x = (c.toNat : Int)) :
    (convert 39 9 (.slice (some ⟨W.heap.size, 0, none⟩) 1 1)).run Tryd.prog (W.alloc (.cells #[.int .u8 x] 5)) = .ok (.string ⟨#[c]⟩) (W.alloc (.cells #[.int .u8 x] 5)) := by
  subst h
  refine run_convert_bytes_back (W.alloc (.cells #[.int .u8 (c.toNat : Int)] 5)) 39 9 5 ⟨W.heap.size, 0, none⟩ 1 [c] Tryd.underlying39 Tryd.underlying5 Tryd.underlying9 ?_
  intro j hj
  match j, hj with
  | 0, _ => simp [Addr.add]

theorem ok_small (s : ByteArray) (k : Nat) (h : k < s.size) (hp : s[k].toNat ≠ 195) (ho : TM.ok (s.data.toList.drop k) = true) : s[k].toNat ≤ 126 := by
  rw [drop_at s k h] at ho
  by_cases hpl : TM.plain s[k] = true
  · unfold TM.plain at hpl; simp at hpl; omega
  · exfalso
    cases ht : s.data.toList.drop (k + 1) <;> rw [ht] at ho <;> simp [TM.ok, hpl, hp] at ho

theorem data_add (a b : ByteArray) : (a ++ b).data.toList = a.data.toList ++ b.data.toList := by simp
theorem size_add (a b : ByteArray) : (a ++ b).size = a.size + b.size := by simp
theorem empty_list (so : ByteArray) (h : (!so.toList.isEmpty) = false) : so.data.toList = [] := by
  rw [Lib.toList_data] at h; simpa using h
theorem full_list (so : ByteArray) (h : (!so.toList.isEmpty) = true) : so.data.toList ≠ [] := by
  rw [Lib.toList_data] at h; simpa using h
theorem put_sep {sep : Bool} {so r : ByteArray} {a : List UInt8} (hr : r.data.toList = a) (ha : a ≠ []) (hs : sep = true) (h : (!so.toList.isEmpty) = true) : TM.put sep so.data.toList a = (false, (so ++ ⟨#[32]⟩ ++ r).data.toList) := by
  unfold TM.put
  rw [if_neg ha, if_pos ⟨hs, full_list so h⟩, data_add, data_add, hr]
theorem put_first {sep : Bool} {so r : ByteArray} {a : List UInt8} (hr : r.data.toList = a) (ha : a ≠ []) (h : (!so.toList.isEmpty) = false) : TM.put sep so.data.toList a = (false, (so ++ r).data.toList) := by
  unfold TM.put
  rw [if_neg ha, if_neg (by rw [empty_list so h]; simp), data_add, hr]
theorem put_on {sep : Bool} {so r : ByteArray} {a : List UInt8} (hr : r.data.toList = a) (ha : a ≠ []) (hs : ¬ sep = true) : TM.put sep so.data.toList a = (false, (so ++ r).data.toList) := by
  unfold TM.put
  rw [if_neg ha, if_neg (fun h => hs h.1), data_add, hr]
theorem put_nothing {sep : Bool} {so : ByteArray} {a : List UInt8} (ha : a = []) : TM.put sep so.data.toList a = (sep, so.data.toList) := by
  unfold TM.put
  rw [if_pos ha]
theorem next_of {L L' M : List UInt8} {sep sep' : Bool} {so so' : ByteArray} {a : List UInt8} (h : TM.rf sep so.data.toList L = M) (hs : TM.rf sep so.data.toList L = TM.rf (TM.put sep so.data.toList a).1 (TM.put sep so.data.toList a).2 L')
    (hp : TM.put sep so.data.toList a = (sep', so'.data.toList)) : TM.rf sep' so'.data.toList L' = M := by
  rw [← h, hs, hp]

theorem rf_upper (sep : Bool) (o : List UInt8) (c : UInt8) (t : List UInt8) (h : 65 ≤ (c.toNat : Int) ∧ (c.toNat : Int) ≤ 90) : TM.rf sep o (c :: t) = TM.rf (TM.put sep o [c + 32]).1 (TM.put sep o [c + 32]).2 t := by
  have hu : TM.upper c = true := by simp [TM.upper]; omega
  rw [TM.rf_one _ _ _ _ (by omega), if_pos hu]
theorem rf_same (sep : Bool) (o : List UInt8) (c : UInt8) (t : List UInt8) (h : (97 ≤ (c.toNat : Int) ∧ (c.toNat : Int) ≤ 122) ∨ (48 ≤ (c.toNat : Int) ∧ (c.toNat : Int) ≤ 57)) : TM.rf sep o (c :: t) = TM.rf (TM.put sep o [c]).1 (TM.put sep o [c]).2 t := by
  have hu : ¬ TM.upper c = true := by simp [TM.upper]; omega
  have hd : (TM.lower c || TM.digit c) = true := by simp [TM.lower, TM.digit]; omega
  rw [TM.rf_one _ _ _ _ (by omega), if_neg hu, if_pos hd]
theorem rf_rest (sep : Bool) (o : List UInt8) (c : UInt8) (t : List UInt8) (h0 : c.toNat ≠ 195) (h : ¬ (65 ≤ (c.toNat : Int) ∧ (c.toNat : Int) ≤ 90) ∧ ¬ (97 ≤ (c.toNat : Int) ∧ (c.toNat : Int) ≤ 122) ∧ ¬ (48 ≤ (c.toNat : Int) ∧ (c.toNat : Int) ≤ 57)) :
    TM.rf sep o (c :: t) = if c.toNat = 39 then TM.rf sep o t else TM.rf true o t := by
  have hu : ¬ TM.upper c = true := by simp [TM.upper]; omega
  have hd : ¬ (TM.lower c || TM.digit c) = true := by simp [TM.lower, TM.digit]; omega
  rw [TM.rf_one _ _ _ _ h0, if_neg hu, if_neg hd]

set_option maxHeartbeats 2000000 in
theorem rFold_loop (s : ByteArray) (w : World) (hv : validB s = true) (hm : s.size ≤ maxLen) :
    Calls Tryd.prog 12 #[.string s] w fun e w' => e = .returned (.tuple #[.string (bs (TM.rf false [] s.data.toList)), .int .i64 0]) ∧ Below w.heap.size w w' := by
  have hsz : s.size ≤ 64 := by
    unfold validB TM.valid at hv
    simp at hv
    omega
  have hok : TM.ok s.data.toList = true := by
    unfold validB TM.valid at hv
    simp at hv
    exact hv.2
  have HV := Lib.hid hv
  clear hv
  have HO := Lib.hid hok
  clear hok
  go_enter Tryd.func12, Tryd.ntmps12
  go_wp2_with fail
  refine (rValid_any s w hm).mono ?_
  rintro e w' ⟨rfl, rfl⟩
  rw [HV.out]
  go_wp2
  go_loopw [4, 5, 6] (fun o sp i wr => ∃ (k : Nat) (so : ByteArray) (sep : Bool), k ≤ s.size ∧ i = .int .i64 k ∧ o = .string so ∧ sp = .bool sep ∧ so.size ≤ 2 * k ∧ TM.ok (s.data.toList.drop k) = true ∧ TM.rf sep so.data.toList (s.data.toList.drop k) = TM.rf false [] s.data.toList ∧ Below w.heap.size w wr) (fun _ _ i _ => s.size - (intOf i).toNat)
  case atStart => exact ⟨0, ⟨#[]⟩, false, by omega, rfl, rfl, rfl, by simp [ByteArray.size], HO.out, rfl, Below.refl _ _⟩
  case round =>
    obtain ⟨k, so, sep, hk, rfl, rfl, rfl, hl, hok, hrf, hbw⟩ := hrel
    have HA := Lib.hid hrf
    clear hrf
    have HO2 := Lib.hid hok
    clear hok
    by_cases hlt : k < s.size
    · by_cases hp : s[k].toNat = 195
      · have hok2 : k + 1 < s.size ∧ ∀ h : k + 1 < s.size, TM.ok (s.data.toList.drop (k + 2)) = true ∧ ∀ o, TM.rf sep o (s.data.toList.drop k) = TM.rf (TM.put sep o (TM.repl s[k + 1])).1 (TM.put sep o (TM.repl s[k + 1])).2 (s.data.toList.drop (k + 2)) := by
          have h := HO2.out
          rw [drop_at s k hlt] at h
          obtain ⟨d, u, e, h1, h2⟩ := TM.ok_195 _ _ hp h
          have hk1 : k + 1 < s.size := by
            rcases Nat.lt_or_ge (k + 1) s.size with h' | h'
            · exact h'
            · rw [drop_end s (k + 1) h'] at e; cases e
          refine ⟨hk1, fun hk1 => ?_⟩
          rw [drop_at s (k + 1) hk1] at e
          obtain ⟨e1, e2⟩ := List.cons.inj e
          refine ⟨by rw [e2]; exact h2, fun o => ?_⟩
          rw [drop_at s k hlt, drop_at s (k + 1) hk1, TM.rf_pair _ _ _ _ _ hp]
        obtain ⟨hk1, hx⟩ := hok2
        obtain ⟨hok3, hst⟩ := hx hk1
        clear hx
        have HP := Lib.hid hp
        clear hp
        have HO3 := Lib.hid hok3
        clear hok3
        have HST := Lib.hid (hst so.data.toList)
        clear hst
        have hpi : ((s[k].toNat : Int) == 195) = true := by simp [HP.out]
        have hrl := TM.repl_le s[k + 1]
        have hbl := list_bs (TM.repl s[k + 1])
        have hbz : (bs (TM.repl s[k + 1])).size = (TM.repl s[k + 1]).length := size_of_list _
        have HBL := Lib.hid hbl
        have HBZ := Lib.hid hbz
        clear hbl hbz
        generalize hR : bs (TM.repl s[k + 1]) = R at *
        have HRR := Lib.hid hR
        clear hR
        go_wp2_with fail
        refine (replacement_any _ _).mono ?_
        rintro e w' ⟨rfl, rfl⟩
        rw [HRR.out]
        have hRz : R.size ≤ 2 := by rw [HBZ.out]; exact hrl
        go_wp2
        all_goals refine ⟨?_, by simp [intOf]; omega⟩
        all_goals first
          | (refine ⟨k + 2, _, sep, by omega, by go_num, rfl, rfl, by omega, HO3.out, next_of HA.out HST.out (put_nothing (by rw [← HBL.out]; exact empty_list R (by have h := ‹R.toList.isEmpty = true›; simp [h]))), hbw⟩)
          | (refine ⟨k + 2, _, false, by omega, by go_num, rfl, rfl, ?_, HO3.out, next_of HA.out HST.out (put_sep HBL.out (by rw [← HBL.out]; exact full_list R (by have h := ‹R.toList.isEmpty = false›; simp [h])) (by assumption) (by assumption)), hbw⟩; simp only [size_add]; show _ + 1 + _ ≤ _; omega)
          | (refine ⟨k + 2, _, false, by omega, by go_num, rfl, rfl, ?_, HO3.out, next_of HA.out HST.out (put_first HBL.out (by rw [← HBL.out]; exact full_list R (by have h := ‹R.toList.isEmpty = false›; simp [h])) (by assumption)), hbw⟩; simp only [size_add]; omega)
          | (refine ⟨k + 2, _, false, by omega, by go_num, rfl, rfl, ?_, HO3.out, next_of HA.out HST.out (put_on HBL.out (by rw [← HBL.out]; exact full_list R (by have h := ‹R.toList.isEmpty = false›; simp [h])) (by assumption)), hbw⟩; simp only [size_add]; omega)
      · have hpi : ((s[k].toNat : Int) == 195) = false := by
          simp only [beq_eq_false_iff_ne]
          omega
        have hsm := ok_small s k hlt hp HO2.out
        have HP := Lib.hid hp
        clear hp
        have k1 : ∀ W : World, _ := fun W => conv1 W s[k] (s[k].toNat : Int) rfl
        have k2 : ∀ W : World, _ := fun W => conv1 W (s[k] + 32) ((s[k].toNat : Int) + 32) (by rw [UInt8.toNat_add]; have : (32 : UInt8).toNat = 32 := rfl; omega)
        have hok3 := HO2.out
        rw [drop_at s k hlt] at hok3
        have HO3 := Lib.hid (TM.ok_rest _ _ HP.out hok3)
        clear hok3
        have HU := Lib.hid (fun h => by rw [drop_at s k hlt]; exact rf_upper sep so.data.toList s[k] (s.data.toList.drop (k + 1)) h : (65 ≤ (s[k].toNat : Int) ∧ (s[k].toNat : Int) ≤ 90) → TM.rf sep so.data.toList (s.data.toList.drop k) = TM.rf (TM.put sep so.data.toList [s[k] + 32]).1 (TM.put sep so.data.toList [s[k] + 32]).2 (s.data.toList.drop (k + 1)))
        have HS := Lib.hid (fun h => by rw [drop_at s k hlt]; exact rf_same sep so.data.toList s[k] (s.data.toList.drop (k + 1)) h : ((97 ≤ (s[k].toNat : Int) ∧ (s[k].toNat : Int) ≤ 122) ∨ (48 ≤ (s[k].toNat : Int) ∧ (s[k].toNat : Int) ≤ 57)) → TM.rf sep so.data.toList (s.data.toList.drop k) = TM.rf (TM.put sep so.data.toList [s[k]]).1 (TM.put sep so.data.toList [s[k]]).2 (s.data.toList.drop (k + 1)))
        go_wp2
        all_goals refine ⟨?_, by simp [intOf]; omega⟩
        all_goals first
          | (refine ⟨k + 1, _, false, by omega, by go_num, rfl, rfl, ?_, HO3.out, next_of HA.out (HU.out (by omega)) (put_sep rfl (by simp) (by assumption) (by assumption)), (hbw.alloc hbw.size _)⟩; simp only [size_add]; show _ + 1 + 1 ≤ _; omega)
          | (refine ⟨k + 1, _, false, by omega, by go_num, rfl, rfl, ?_, HO3.out, next_of HA.out (HU.out (by omega)) (put_first rfl (by simp) (by assumption)), (hbw.alloc hbw.size _)⟩; simp only [size_add]; show _ + 1 ≤ _; omega)
          | (refine ⟨k + 1, _, false, by omega, by go_num, rfl, rfl, ?_, HO3.out, next_of HA.out (HU.out (by omega)) (put_on rfl (by simp) (by assumption)), (hbw.alloc hbw.size _)⟩; simp only [size_add]; show _ + 1 ≤ _; omega)
          | (refine ⟨k + 1, _, false, by omega, by go_num, rfl, rfl, ?_, HO3.out, next_of HA.out (HS.out (by omega)) (put_sep rfl (by simp) (by assumption) (by assumption)), (hbw.alloc hbw.size _)⟩; simp only [size_add]; show _ + 1 + 1 ≤ _; omega)
          | (refine ⟨k + 1, _, false, by omega, by go_num, rfl, rfl, ?_, HO3.out, next_of HA.out (HS.out (by omega)) (put_first rfl (by simp) (by assumption)), (hbw.alloc hbw.size _)⟩; simp only [size_add]; show _ + 1 ≤ _; omega)
          | (refine ⟨k + 1, _, false, by omega, by go_num, rfl, rfl, ?_, HO3.out, next_of HA.out (HS.out (by omega)) (put_on rfl (by simp) (by assumption)), (hbw.alloc hbw.size _)⟩; simp only [size_add]; show _ + 1 ≤ _; omega)
          | (have h39 := ‹((s[k].toNat : Int) != 39) = true›
             refine ⟨k + 1, _, true, by omega, by go_num, rfl, rfl, by omega, HO3.out, ?_, hbw⟩
             rw [← HA.out, drop_at s k hlt, rf_rest _ _ _ _ HP.out (by omega), if_neg (by simp at h39; omega)])
          | (have h39 := ‹((s[k].toNat : Int) != 39) = false›
             refine ⟨k + 1, _, sep, by omega, by go_num, rfl, rfl, by omega, HO3.out, ?_, hbw⟩
             rw [← HA.out, drop_at s k hlt, rf_rest _ _ _ _ HP.out (by omega), if_pos (by simp at h39; omega)])
    · go_wp2
      go_ret2
      refine ⟨?_, hbw⟩
      have h := HA.out
      rw [drop_end s k (by omega), TM.rf_nil] at h
      rw [← h, bs_list]
      rfl
set_option maxHeartbeats 400000 in
/-- The reference's Fold gives what Fold gives. -/
theorem rFold_any (s : ByteArray) (w : World) (hm : s.size ≤ maxLen) :
    Calls Tryd.prog 12 #[.string s] w fun e w' => e = .returned (foldVal s) ∧ Below w.heap.size w w' := by
  by_cases hv : validB s = true
  · have e : foldVal s = .tuple #[.string (bs (TM.fold s.data.toList)), .int .i64 0] := by simp [foldVal, hv]
    rw [e, ← TM.rf_fold]
    exact rFold_loop s w hv hm
  · have e : foldVal s = .tuple #[.string ⟨#[]⟩, .int .i64 3] := by simp [foldVal, hv]
    rw [e]
    have hv' : validB s = false := by simpa using hv
    have HV := Lib.hid hv'
    clear hv hv' e
    go_enter Tryd.func12, Tryd.ntmps12
    go_wp2_with fail
    refine (rValid_any s w hm).mono ?_
    rintro e w' ⟨rfl, rfl⟩
    rw [HV.out]
    go_wp2
    go_ret2
    exact ⟨rfl, Below.refl _ _⟩

end Go.Proofs.YtjdjjehdognpiaaDoor
