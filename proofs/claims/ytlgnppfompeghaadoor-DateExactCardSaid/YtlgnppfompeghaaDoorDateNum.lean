/- Walks of number, read and the reference's number, made: dates that texts of digits write. -/
import Derived.Test.YtlgnppfompeghaaDoorDatePure
import Derived.Deep.RegionHeld3
namespace Go.Proofs.YtlgnppfompeghaaDoor
open Go.RowKit

theorem ret_two {a b c d : Value} (h1 : a = b) (h2 : c = d) : Ending.returned (.tuple #[a, c]) = .returned (.tuple #[b, d]) := by rw [h1, h2]

/-- A date in a block of its own. -/
def DateAt (b : Nat) (w : World) (y m d : Int) : Prop := w.heap[b]? = some (.cells #[.int .i64 y, .int .i64 m, .int .i64 d] 24 (0, 0))
theorem DateAt.lt {b : Nat} {w : World} {y m d : Int} (h : DateAt b w y m d) : b < w.heap.size := (Array.getElem?_eq_some_iff.1 h).1
theorem DateAt.below {b B : Nat} {w w' : World} {y m d : Int} (h : DateAt b w y m d) (hb : Below B w w') (hB : w.heap.size ≤ B) : DateAt b w' y m d := (hb.block b (Nat.lt_of_lt_of_le h.lt hB)).trans h
theorem DateAt.alloc {b : Nat} {w : World} {y m d : Int} (h : DateAt b w y m d) (o : Obj) : DateAt b (w.alloc o) y m d := h.below (B := w.heap.size) ((Below.refl _ w).alloc (Nat.le_refl _) o) (Nat.le_refl _)
theorem dateAt_new {b : Nat} (w : World) (y m d : Int) (hb : w.heap.size = b) : DateAt b (w.alloc (.cells #[.int .i64 y, .int .i64 m, .int .i64 d] 24)) y m d := by
  subst hb
  exact heap_alloc_new w _
/-- What walks read and write of it. -/
theorem DateAt.parts {b : Nat} {w : World} {y m d : Int} (h : DateAt b w y m d) : w.cell? ⟨b, 0, none⟩ = some (.int .i64 y) ∧ w.cell? ⟨b, 1, none⟩ = some (.int .i64 m) ∧ w.cell? ⟨b, 2, none⟩ = some (.int .i64 d) ∧ w.frozen? ⟨b, 0, none⟩ = false ∧ w.frozen? ⟨b, 1, none⟩ = false ∧ w.frozen? ⟨b, 2, none⟩ = false :=
  ⟨by rw [Lib.cell_of_heap h]; rfl, by rw [Lib.cell_of_heap h]; rfl, by rw [Lib.cell_of_heap h]; rfl, Lib.frozen_of_heap h 0, Lib.frozen_of_heap h 1, Lib.frozen_of_heap h 2⟩
/-- Three cells of a new block that are written leave what lies below. -/
theorem below_set3 {B b : Nat} {w w' : World} (h : Below B w w') (hb : B ≤ b) (v0 v1 v2 : Value) : Below B w (((w'.setCell { block := b, off := 0 } v0).setCell { block := b, off := 1 } v1).setCell { block := b, off := 2 } v2) :=
  ((h.setCell hb v0).setCell hb v1).setCell hb v2
theorem below_then {w w1 w2 : World} (h : Below w.heap.size w w1) (h2 : Below w1.heap.size w1 w2) : Below w.heap.size w w2 := h.trans (h2.mono h.size)
theorem below_new (w : World) (o : Obj) : Below w.heap.size w (w.alloc o) := (Below.refl _ w).alloc (Nat.le_refl _) o
theorem below_new2 (w : World) (o o' : Obj) : Below w.heap.size w ((w.alloc o).alloc o') := below_then (below_new w o) (below_new _ o')
theorem below_new3 (w : World) (o o' o'' : Obj) : Below w.heap.size w (((w.alloc o).alloc o').alloc o'') := below_then (below_new2 w o o') (below_new _ o'')

def dig (c : UInt8) : Bool := decide (48 ≤ c.toNat) && decide (c.toNat ≤ 57)
/-- What digits write, behind a number. -/
def num (n : Int) : List UInt8 → Option Int
  | [] => some n
  | c :: t => if dig c = true then num (10 * n + ((c.toNat : Int) - 48)) t else none
def nines : Nat → Int
  | 0 => 0
  | k + 1 => 10 * nines k + 9
theorem nines_le (k : Nat) (h : k < 4) : nines k ≤ 999 := by
  match k, h with
  | 0, _ => decide
  | 1, _ => decide
  | 2, _ => decide
  | 3, _ => decide
theorem nines_le4 (k : Nat) (h : k ≤ 4) : nines k ≤ 9999 := by
  match k, h with
  | 0, _ => decide
  | 1, _ => decide
  | 2, _ => decide
  | 3, _ => decide
  | 4, _ => decide
def numB (s : ByteArray) : Option Int := num 0 s.data.toList
theorem num_step {s : ByteArray} {k : Nat} {n : Int} (h : k < s.size) (h1 : 48 ≤ (s[k].toNat : Int)) (h2 : (s[k].toNat : Int) ≤ 57) (hr : num n (s.data.toList.drop k) = numB s) : num (10 * n + ((s[k].toNat : Int) - 48)) (s.data.toList.drop (k + 1)) = numB s := by
  rw [drop_at s k h] at hr
  have hd : dig s[k] = true := by simp [dig]; omega
  rw [← hr]
  simp [num, hd]
theorem num_stop {s : ByteArray} {k : Nat} {n : Int} (h : k < s.size) (h1 : (s[k].toNat : Int) < 48 ∨ 57 < (s[k].toNat : Int)) (hr : num n (s.data.toList.drop k) = numB s) : numB s = none := by
  rw [drop_at s k h] at hr
  have hd : dig s[k] = false := by simp [dig]; omega
  rw [← hr]
  simp [num, hd]
theorem num_end {s : ByteArray} {k : Nat} {n : Int} (h : s.size ≤ k) (hr : num n (s.data.toList.drop k) = numB s) : numB s = some n := by
  rw [drop_end s k h] at hr
  exact hr.symm

set_option maxHeartbeats 400000 in
theorem number_any (s : ByteArray) (w : World) (hm : s.size ≤ 4) :
    Calls Tryd.prog 47 #[.string s] w fun e w' => e = .returned (.int .i64 ((numB s).getD (-1))) ∧ w = w' := by
  go_enter Tryd.func47, Tryd.ntmps47
  go_wp2
  go_loop [3, 4] (fun o i => ∃ (k : Nat) (n : Int), k ≤ s.size ∧ i = .int .i64 k ∧ o = .int .i64 n ∧ (0 ≤ n ∧ n ≤ nines k) ∧ num n (s.data.toList.drop k) = numB s) (fun _ i => s.size - (intOf i).toNat)
  case atStart => exact ⟨0, 0, by omega, rfl, rfl, ⟨by omega, by decide⟩, rfl⟩
  case round =>
    obtain ⟨k, n, hk, rfl, rfl, ⟨hn0, hn1⟩, hr⟩ := hrel
    have HR := Lib.hid hr
    clear hr
    have HN := Lib.hid hn1
    clear hn1
    by_cases hlt : k < s.size
    · have hn2 : n ≤ 999 := Int.le_trans HN.out (nines_le k (by omega))
      go_wp2
      · go_ret
        exact ⟨ret_int (by rw [num_stop hlt (by omega) HR.out]; rfl), rfl⟩
      · exact ⟨⟨k + 1, _, by omega, by go_num, rfl, ⟨by omega, by have := HN.out; show _ ≤ 10 * nines k + 9; omega⟩, num_step hlt (by omega) (by omega) HR.out⟩, by simp [intOf]; omega⟩
      · go_ret
        exact ⟨ret_int (by rw [num_stop hlt (by omega) HR.out]; rfl), rfl⟩
    · go_wp2
      go_ret
      exact ⟨ret_int (by rw [num_end (by omega) HR.out]; rfl), rfl⟩

/-- What the reference's number returns. -/
def numT (s : ByteArray) : Value := match numB s with
  | some n => .tuple #[.int .i64 n, .bool true]
  | none => .tuple #[.int .i64 0, .bool false]
set_option maxHeartbeats 400000 in
theorem rnumber_any (s : ByteArray) (w : World) (hm : s.size ≤ 4) :
    Calls Tryd.prog 48 #[.string s] w fun e w' => e = .returned (numT s) ∧ w = w' := by
  go_enter Tryd.func48, Tryd.ntmps48
  go_wp2
  go_loop [4, 5] (fun o i => ∃ (k : Nat) (n : Int), k ≤ s.size ∧ i = .int .i64 k ∧ o = .int .i64 n ∧ (0 ≤ n ∧ n ≤ nines k) ∧ num n (s.data.toList.drop k) = numB s) (fun _ i => s.size - (intOf i).toNat)
  case atStart => exact ⟨0, 0, by omega, rfl, rfl, ⟨by omega, by decide⟩, rfl⟩
  case round =>
    obtain ⟨k, n, hk, rfl, rfl, ⟨hn0, hn1⟩, hr⟩ := hrel
    have HR := Lib.hid hr
    clear hr
    have HN := Lib.hid hn1
    clear hn1
    by_cases hlt : k < s.size
    · have hn2 : n ≤ 999 := Int.le_trans HN.out (nines_le k (by omega))
      go_wp2
      · go_ret2
        exact ⟨congrArg Ending.returned (by unfold numT; rw [num_stop hlt (by omega) HR.out]; rfl), rfl⟩
      · exact ⟨⟨k + 1, _, by omega, by go_num, rfl, ⟨by omega, by have := HN.out; show _ ≤ 10 * nines k + 9; omega⟩, num_step hlt (by omega) (by omega) HR.out⟩, by simp [intOf]; omega⟩
      · go_ret2
        exact ⟨congrArg Ending.returned (by unfold numT; rw [num_stop hlt (by omega) HR.out]; rfl), rfl⟩
    · go_wp2
      go_ret2
      exact ⟨congrArg Ending.returned (by unfold numT; rw [num_end (by omega) HR.out]; rfl), rfl⟩

/-- The date of three texts, or none. -/
def readV (y m d : ByteArray) : Value := match numB y, numB m, numB d with
  | some a, some b, some c => if DM.valid a b c = true then .tuple #[dateV a b c, .int .i64 0] else .tuple #[dateV 0 0 0, .int .i64 4]
  | _, _, _ => .tuple #[dateV 0 0 0, .int .i64 4]
theorem readV_getD (y m d : ByteArray) : readV y m d = if DM.valid ((numB y).getD (-1)) ((numB m).getD (-1)) ((numB d).getD (-1)) = true then .tuple #[dateV ((numB y).getD (-1)) ((numB m).getD (-1)) ((numB d).getD (-1)), .int .i64 0] else .tuple #[dateV 0 0 0, .int .i64 4] := by
  have nv : ∀ a b c : Int, a = -1 ∨ b = -1 ∨ c = -1 → DM.valid a b c = false := fun a b c h => by
    cases hv : DM.valid a b c with
    | false => rfl
    | true => have := DM.valid_iff.1 hv
              omega
  unfold readV
  cases numB y with
  | none =>
    have := nv ((none : Option Int).getD (-1)) ((numB m).getD (-1)) ((numB d).getD (-1)) (.inl rfl)
    rw [this]; rfl
  | some a =>
    cases numB m with
    | none =>
      have := nv ((some a).getD (-1)) ((none : Option Int).getD (-1)) ((numB d).getD (-1)) (.inr (.inl rfl))
      rw [this]; rfl
    | some b =>
      cases numB d with
      | none =>
        have := nv ((some a).getD (-1)) ((some b).getD (-1)) ((none : Option Int).getD (-1)) (.inr (.inr rfl))
        rw [this]; rfl
      | some c => rfl

set_option maxHeartbeats 1000000 in
theorem read_any (y m d : ByteArray) (w : World) (hE : DEnv w) (hy : y.size ≤ 4) (hm : m.size ≤ 4) (hd : d.size ≤ 4) :
    Calls Tryd.prog 41 #[.string y, .string m, .string d] w fun e w' => e = .returned (readV y m d) ∧ Below w.heap.size w w' := by
  have HE := Lib.hid hE
  clear hE
  have F := Lib.hid (readV_getD y m d)
  have C1 := Lib.hid (fun W => number_any y W hy)
  have C2 := Lib.hid (fun W => number_any m W hm)
  have C3 := Lib.hid (fun W => number_any d W hd)
  clear hy hm hd
  generalize readV y m d = R at *
  generalize (numB y).getD (-1) = a at *
  generalize (numB m).getD (-1) = b at *
  generalize (numB d).getD (-1) = c at *
  go_enter Tryd.func41, Tryd.ntmps41
  go_wp2_with fail
  refine (C1.out _).mono ?_
  rintro e w1 ⟨rfl, rfl⟩
  go_wp2_with fail
  refine (C2.out _).mono ?_
  rintro e w1 ⟨rfl, rfl⟩
  go_wp2_with fail
  refine (C3.out _).mono ?_
  rintro e w1 ⟨rfl, rfl⟩
  go_wp2_with fail
  refine (Valid_any a b c _ (HE.out.below (below_new2 w _ _))).mono ?_
  rintro e w1 ⟨rfl, b1⟩
  obtain ⟨r0, r1, r2, r3, r4, r5⟩ := (((dateAt_new w 0 0 0 rfl).alloc _).below b1 (Nat.le_refl _)).parts
  obtain ⟨q0, q1, q2, q3, q4, q5⟩ := ((dateAt_new (b := w.heap.size + 1) (w.alloc _) a b c (by simp)).below b1 (Nat.le_refl _)).parts
  have b2 := Lib.hid (below_then (below_new2 w _ _) b1)
  clear b1
  cases hv : DM.valid a b c <;> rw [hv] at F
  · go_wp2
    have B2 := b2.out
    refine bodyPost_ret (v := .tuple #[dateV 0 0 0, .int .i64 4]) (by simp [results, Tryd.results41, dateV, go_sem, r0, r1, r2]) rfl ⟨congrArg Ending.returned (by rw [F.out]; rfl), below_set3 B2 (Nat.le_refl _) _ _ _⟩
  · go_wp2
    have B2 := b2.out
    refine bodyPost_ret (v := .tuple #[dateV a b c, .int .i64 0]) (by simp [results, Tryd.results41, dateV, go_sem, r0, r1, r2]) rfl ⟨congrArg Ending.returned (by rw [F.out]; simp), below_set3 B2 (Nat.le_refl _) _ _ _⟩

theorem numT_out (s : ByteArray) : ∃ (a : Int) (b : Bool), numT s = .tuple #[.int .i64 a, .bool b] ∧ numB s = if b = true then some a else none := by
  unfold numT
  cases numB s with
  | none => exact ⟨0, false, rfl, rfl⟩
  | some n => exact ⟨n, true, rfl, rfl⟩

set_option maxHeartbeats 2000000 in
theorem made_any (y m d : ByteArray) (w : World) (hy : y.size ≤ 4) (hm : m.size ≤ 4) (hd : d.size ≤ 4) :
    Calls Tryd.prog 42 #[.string y, .string m, .string d] w fun e w' => e = .returned (readV y m d) ∧ Below w.heap.size w w' := by
  have C1 := Lib.hid (fun W => rnumber_any y W hy)
  have C2 := Lib.hid (fun W => rnumber_any m W hm)
  have C3 := Lib.hid (fun W => rnumber_any d W hd)
  clear hy hm hd
  obtain ⟨a, ba, ha, ha2⟩ := numT_out y
  obtain ⟨b, bb, hb, hb2⟩ := numT_out m
  obtain ⟨c, bc, hc, hc2⟩ := numT_out d
  rw [ha] at C1
  rw [hb] at C2
  rw [hc] at C3
  have F := Lib.hid (show readV y m d = if (ba && bb && bc && DM.valid a b c) = true then .tuple #[dateV a b c, .int .i64 0] else .tuple #[dateV 0 0 0, .int .i64 4] by
    unfold readV
    rw [ha2, hb2, hc2]
    cases ba <;> cases bb <;> cases bc <;> rfl)
  clear ha hb hc ha2 hb2 hc2
  generalize readV y m d = R at *
  go_enter Tryd.func42, Tryd.ntmps42
  go_wp2_with fail
  refine (C1.out _).mono ?_
  rintro e w1 ⟨rfl, rfl⟩
  go_wp2_with fail
  refine (C2.out _).mono ?_
  rintro e w1 ⟨rfl, rfl⟩
  go_wp2_with fail
  refine (C3.out _).mono ?_
  rintro e w1 ⟨rfl, rfl⟩
  have hbn := Lib.hid (below_new2 w (.cells #[.int .i64 0, .int .i64 0, .int .i64 0] 24) (.cells #[.int .i64 a, .int .i64 b, .int .i64 c] 24))
  cases ba
  · go_wp2
    refine bodyPost_ret (v := .tuple #[dateV 0 0 0, .int .i64 4]) (by simp [results, Tryd.results42, dateV, go_sem]) rfl ⟨congrArg Ending.returned (by rw [F.out]; rfl), hbn.out⟩
  · cases bb
    · go_wp2
      refine bodyPost_ret (v := .tuple #[dateV 0 0 0, .int .i64 4]) (by simp [results, Tryd.results42, dateV, go_sem]) rfl ⟨congrArg Ending.returned (by rw [F.out]; rfl), hbn.out⟩
    · cases bc
      · go_wp2
        refine bodyPost_ret (v := .tuple #[dateV 0 0 0, .int .i64 4]) (by simp [results, Tryd.results42, dateV, go_sem]) rfl ⟨congrArg Ending.returned (by rw [F.out]; rfl), hbn.out⟩
      · go_wp2_with fail
        refine (rValid_any a b c _).mono ?_
        rintro e w1 ⟨rfl, b1⟩
        obtain ⟨r0, r1, r2, r3, r4, r5⟩ := (((dateAt_new w 0 0 0 rfl).alloc _).below b1 (Nat.le_refl _)).parts
        obtain ⟨q0, q1, q2, q3, q4, q5⟩ := ((dateAt_new (b := w.heap.size + 1) (w.alloc _) a b c (by simp)).below b1 (Nat.le_refl _)).parts
        have b2 := Lib.hid (below_then (below_new2 w _ _) b1)
        clear b1
        cases hv : DM.valid a b c <;> rw [hv] at F
        · go_wp2
          have B2 := b2.out
          refine bodyPost_ret (v := .tuple #[dateV 0 0 0, .int .i64 4]) (by simp [results, Tryd.results42, dateV, go_sem, r0, r1, r2]) rfl ⟨congrArg Ending.returned (by rw [F.out]; rfl), below_set3 B2 (Nat.le_refl _) _ _ _⟩
        · go_wp2
          have B2 := b2.out
          refine bodyPost_ret (v := .tuple #[dateV a b c, .int .i64 0]) (by simp [results, Tryd.results42, dateV, go_sem, r0, r1, r2]) rfl ⟨congrArg Ending.returned (by rw [F.out]; rfl), below_set3 B2 (Nat.le_refl _) _ _ _⟩
end Go.Proofs.YtlgnppfompeghaaDoor
