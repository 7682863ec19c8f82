/- The walk of DateAscends: digits compare as numbers do. -/
import Derived.Test.YtlgnppfompeghaaDoorDateDeck
import Derived.Test.YtlgnppfompeghaaDoorDateLaw1
namespace Go.Proofs.YtlgnppfompeghaaDoor
open Go.RowKit
set_option linter.unusedVariables false

theorem less_two (a b : Nat) (ha : a < 100) (hb : b < 100) (x y : List UInt8) : Op.bytesLess ((twoB a).data.toList ++ x) ((twoB b).data.toList ++ y) = (decide (a < b) || (decide (a = b) && Op.bytesLess x y)) := by
  have a1 := byte_of (a / 10) (by omega)
  have a2 := byte_of (a % 10) (by omega)
  have b1 := byte_of (b / 10) (by omega)
  have b2 := byte_of (b % 10) (by omega)
  unfold twoB
  generalize UInt8.ofNat (48 + a / 10) = c1 at *
  generalize UInt8.ofNat (48 + a % 10) = c2 at *
  generalize UInt8.ofNat (48 + b / 10) = d1 at *
  generalize UInt8.ofNat (48 + b % 10) = d2 at *
  show (decide (c1 < d1) || (c1 == d1 && (decide (c2 < d2) || (c2 == d2 && Op.bytesLess x y)))) = _
  generalize Op.bytesLess x y = t
  have e1 : (c1 == d1) = decide (c1.toNat = d1.toNat) := by rw [Bool.eq_iff_iff]; simp [UInt8.toNat_inj]
  have e2 : (c2 == d2) = decide (c2.toNat = d2.toNat) := by rw [Bool.eq_iff_iff]; simp [UInt8.toNat_inj]
  have l1 : decide (c1 < d1) = decide (c1.toNat < d1.toNat) := by simp [UInt8.lt_iff_toNat_lt]
  have l2 : decide (c2 < d2) = decide (c2.toNat < d2.toNat) := by simp [UInt8.lt_iff_toNat_lt]
  rw [e1, e2, l1, l2, Bool.eq_iff_iff]
  cases t <;> simp <;> omega
theorem less_fmt {y m d y' m' d' : Int} (h : DM.valid y m d = true) (h' : DM.valid y' m' d' = true) : Op.bytesLess (fmtB y m d).toList (fmtB y' m' d').toList = decide (DM.day y m d < DM.day y' m' d') := by
  have hk := DM.day_lt_iff h h'
  obtain ⟨hy, hm, hd⟩ := DM.valid_iff.1 h
  obtain ⟨hy', hm', hd'⟩ := DM.valid_iff.1 h'
  have hl := DM.len_pos y m
  have hl' := DM.len_pos y' m'
  rw [Lib.toList_data, Lib.toList_data]
  unfold fmtB
  simp only [data_add, List.append_assoc]
  have e := less_two d.toNat d'.toNat (by omega) (by omega) [] []
  simp only [List.append_nil] at e
  rw [less_two _ _ (by omega) (by omega), less_two _ _ (by omega) (by omega), less_two _ _ (by omega) (by omega), e, Bool.eq_iff_iff]
  unfold DM.key at hk
  simp [hk, Op.bytesLess]
  omega

/-- Two dates in blocks of their own. -/
structure D2 (p q : Nat) (y m d y' m' d' : Int) (w0 w : World) : Prop where
  one : DateAt p w y m d
  two : DateAt q w y' m' d'
  bel : Below w0.heap.size w0 w
theorem D2.below {p q : Nat} {y m d y' m' d' : Int} {w0 w w' : World} (h : D2 p q y m d y' m' d' w0 w) (hb : Below w.heap.size w w') : D2 p q y m d y' m' d' w0 w' :=
  ⟨h.one.below hb (Nat.le_refl _), h.two.below hb (Nat.le_refl _), below_then h.bel hb⟩
theorem D2.alloc {p q : Nat} {y m d y' m' d' : Int} {w0 w : World} (h : D2 p q y m d y' m' d' w0 w) (o : Obj) : D2 p q y m d y' m' d' w0 (w.alloc o) := h.below (below_new w o)
theorem D2.cells {p q : Nat} {y m d y' m' d' : Int} {w0 w : World} (h : D2 p q y m d y' m' d' w0 w) :
    w.cell? ⟨p, 0, none⟩ = some (.int .i64 y) ∧ w.cell? ⟨p, 1, none⟩ = some (.int .i64 m) ∧ w.cell? ⟨p, 2, none⟩ = some (.int .i64 d) ∧ w.cell? ⟨q, 0, none⟩ = some (.int .i64 y') ∧ w.cell? ⟨q, 1, none⟩ = some (.int .i64 m') ∧ w.cell? ⟨q, 2, none⟩ = some (.int .i64 d') :=
  ⟨h.one.parts.1, h.one.parts.2.1, h.one.parts.2.2.1, h.two.parts.1, h.two.parts.2.1, h.two.parts.2.2.1⟩

set_option maxHeartbeats 2000000 in
theorem DateAscends_walk (A : Option Addr) (n c : Nat) (w : World) (hE : DEnv w) (hI : IntsArg w A n c) :
    Calls Tryd.prog 6 #[.slice A n c] w fun e w' => e = .returned (.bool true) ∧ Below w.heap.size w w' := by
  have HE := Lib.hid hE
  have HI := Lib.hid hI
  clear hE hI
  go_enter Tryd.func6, Tryd.ntmps6
  go_wp2_with fail
  refine (awake3_any w HE.out).mono ?_
  rintro e w1 ⟨rfl, b1⟩
  go_wp2_with fail
  refine (Few_any A n c w1 (Nat.le_trans HI.out.1 HI.out.2.1)).mono ?_
  rintro e w1' ⟨rfl, rfl⟩
  have hE1 := Lib.hid (HE.out.below b1)
  by_cases hn : n ≤ 400
  · have hd : decide (n ≤ 400) = true := by simp [hn]
    rw [hd]
    clear hd
    go_wp2_with fail
    refine (New_any A n c w1 (HI.out.below b1)).mono ?_
    rintro e w2 ⟨rfl, hd2, b2⟩
    have hgw : w.heap.size ≤ w1.heap.size := b1.size
    have B2 := Lib.hid (below_then b1 b2)
    clear b1 b2
    generalize hg : w1.heap.size = g at *
    clear hg
    go_wp2_with fail
    refine (Date_any g w2 hd2).mono ?_
    rintro e w3 ⟨y, m, d, rfl, ⟨⟨y1, y2⟩, ⟨m1, m2⟩, d1, d2⟩, hd3, g3⟩
    have B3 := Lib.hid (dealt_below B2.out g3 hgw)
    clear g3
    go_wp2_with fail
    refine (Date_any g w3 hd3).mono ?_
    rintro e w4 ⟨y', m', d', rfl, ⟨⟨y1', y2'⟩, ⟨m1', m2'⟩, d1', d2'⟩, hd4, g4⟩
    have B4 := Lib.hid (dealt_below B3.out g4 hgw)
    clear g4 hd3 hd4 hd2
    have HST := Lib.hid (show D2 w4.heap.size (w4.heap.size + 1) y m d y' m' d' w ((w4.alloc (.cells #[.int .i64 y, .int .i64 m, .int .i64 d] 24)).alloc (.cells #[.int .i64 y', .int .i64 m', .int .i64 d'] 24)) from
      ⟨(dateAt_new w4 y m d rfl).alloc _, dateAt_new _ y' m' d' (by simp), below_then B4.out (below_new2 w4 _ _)⟩)
    clear B2 B3 B4
    have C1 := Lib.hid (fun W hW => Day_any y m d W hW)
    have C2 := Lib.hid (fun W hW => Day_any y' m' d' W hW)
    have C3 := Lib.hid (fun W hW => Format_any y m d W hW)
    have C4 := Lib.hid (fun W hW => Format_any y' m' d' W hW)
    have C5 := Lib.hid (fun W hW => Valid_any y m d W hW)
    have C6 := Lib.hid (fun W hW => Valid_any y' m' d' W hW)
    have HL := Lib.hid (fun h h' => less_fmt (y := y) (m := m) (d := d) (y' := y') (m' := m') (d' := d') h h')
    have HI2 := Lib.hid (fun h h' => show DM.day y m d = DM.day y' m' d' ↔ (y = y' ∧ m = m' ∧ d = d') from ⟨DM.day_inj h h', fun ⟨h1, h2, h3⟩ => by rw [h1, h2, h3]⟩)
    unfold dateV dayV fmtV at *
    generalize DM.day y m d = D at *
    generalize DM.day y' m' d' = D' at *
    generalize fmtB y m d = F at *
    generalize fmtB y' m' d' = F' at *
    generalize DM.valid y m d = v at *
    generalize DM.valid y' m' d' = v' at *
    cases v <;> cases v'
    · simp only [Bool.false_eq_true, if_false] at C1 C2 C3 C4
      go_wp2_with fail
      refine (C1.out _ (HE.out.below HST.out.bel)).mono ?_
      rintro e w5 ⟨rfl, bk⟩
      have HST := Lib.hid (HST.out.below bk)
      clear bk
      obtain ⟨p0, p1, p2, q0, q1, q2⟩ := HST.out.cells
      go_wp2_with fail
      refine (C2.out _ (HE.out.below HST.out.bel)).mono ?_
      rintro e w6 ⟨rfl, bk⟩
      clear p0 p1 p2 q0 q1 q2
      have HST := Lib.hid (HST.out.below bk)
      clear bk
      obtain ⟨p0, p1, p2, q0, q1, q2⟩ := HST.out.cells
      go_wp2_with fail
      refine (C3.out _ (HE.out.below HST.out.bel)).mono ?_
      rintro e w7 ⟨rfl, bk⟩
      clear p0 p1 p2 q0 q1 q2
      have HST := Lib.hid (HST.out.below bk)
      clear bk
      obtain ⟨p0, p1, p2, q0, q1, q2⟩ := HST.out.cells
      go_wp2_with fail
      refine (C4.out _ (HE.out.below HST.out.bel)).mono ?_
      rintro e w8 ⟨rfl, bk⟩
      clear p0 p1 p2 q0 q1 q2
      have HST := Lib.hid (HST.out.below bk)
      clear bk
      obtain ⟨p0, p1, p2, q0, q1, q2⟩ := HST.out.cells
      go_wp2_with fail
      refine (C5.out _ (HE.out.below HST.out.bel)).mono ?_
      rintro e w9 ⟨rfl, bk⟩
      clear p0 p1 p2 q0 q1 q2
      have HST := Lib.hid (HST.out.below bk)
      clear bk
      obtain ⟨p0, p1, p2, q0, q1, q2⟩ := HST.out.cells
      go_wp2
      go_ret
      exact ⟨rfl, HST.out.bel⟩
    · simp only [Bool.false_eq_true, if_false] at C1 C3
      simp only [if_true] at C2 C4
      go_wp2_with fail
      refine (C1.out _ (HE.out.below HST.out.bel)).mono ?_
      rintro e w5 ⟨rfl, bk⟩
      have HST := Lib.hid (HST.out.below bk)
      clear bk
      obtain ⟨p0, p1, p2, q0, q1, q2⟩ := HST.out.cells
      go_wp2_with fail
      refine (C2.out _ (HE.out.below HST.out.bel)).mono ?_
      rintro e w6 ⟨rfl, bk⟩
      clear p0 p1 p2 q0 q1 q2
      have HST := Lib.hid (HST.out.below bk)
      clear bk
      obtain ⟨p0, p1, p2, q0, q1, q2⟩ := HST.out.cells
      go_wp2_with fail
      refine (C3.out _ (HE.out.below HST.out.bel)).mono ?_
      rintro e w7 ⟨rfl, bk⟩
      clear p0 p1 p2 q0 q1 q2
      have HST := Lib.hid (HST.out.below bk)
      clear bk
      obtain ⟨p0, p1, p2, q0, q1, q2⟩ := HST.out.cells
      go_wp2_with fail
      refine (C4.out _ (HE.out.below HST.out.bel)).mono ?_
      rintro e w8 ⟨rfl, bk⟩
      clear p0 p1 p2 q0 q1 q2
      have HST := Lib.hid (HST.out.below bk)
      clear bk
      obtain ⟨p0, p1, p2, q0, q1, q2⟩ := HST.out.cells
      go_wp2_with fail
      refine (C5.out _ (HE.out.below HST.out.bel)).mono ?_
      rintro e w9 ⟨rfl, bk⟩
      clear p0 p1 p2 q0 q1 q2
      have HST := Lib.hid (HST.out.below bk)
      clear bk
      obtain ⟨p0, p1, p2, q0, q1, q2⟩ := HST.out.cells
      go_wp2
      go_ret
      exact ⟨rfl, HST.out.bel⟩
    · simp only [Bool.false_eq_true, if_false] at C2 C4
      simp only [if_true] at C1 C3
      go_wp2_with fail
      refine (C1.out _ (HE.out.below HST.out.bel)).mono ?_
      rintro e w5 ⟨rfl, bk⟩
      have HST := Lib.hid (HST.out.below bk)
      clear bk
      obtain ⟨p0, p1, p2, q0, q1, q2⟩ := HST.out.cells
      go_wp2_with fail
      refine (C2.out _ (HE.out.below HST.out.bel)).mono ?_
      rintro e w6 ⟨rfl, bk⟩
      clear p0 p1 p2 q0 q1 q2
      have HST := Lib.hid (HST.out.below bk)
      clear bk
      obtain ⟨p0, p1, p2, q0, q1, q2⟩ := HST.out.cells
      go_wp2_with fail
      refine (C3.out _ (HE.out.below HST.out.bel)).mono ?_
      rintro e w7 ⟨rfl, bk⟩
      clear p0 p1 p2 q0 q1 q2
      have HST := Lib.hid (HST.out.below bk)
      clear bk
      obtain ⟨p0, p1, p2, q0, q1, q2⟩ := HST.out.cells
      go_wp2_with fail
      refine (C4.out _ (HE.out.below HST.out.bel)).mono ?_
      rintro e w8 ⟨rfl, bk⟩
      clear p0 p1 p2 q0 q1 q2
      have HST := Lib.hid (HST.out.below bk)
      clear bk
      obtain ⟨p0, p1, p2, q0, q1, q2⟩ := HST.out.cells
      go_wp2_with fail
      refine (C5.out _ (HE.out.below HST.out.bel)).mono ?_
      rintro e w9 ⟨rfl, bk⟩
      clear p0 p1 p2 q0 q1 q2
      have HST := Lib.hid (HST.out.below bk)
      clear bk
      obtain ⟨p0, p1, p2, q0, q1, q2⟩ := HST.out.cells
      go_wp2_with fail
      refine (C6.out _ (HE.out.below HST.out.bel)).mono ?_
      rintro e w10 ⟨rfl, bk⟩
      clear p0 p1 p2 q0 q1 q2
      have HST := Lib.hid (HST.out.below bk)
      clear bk
      obtain ⟨p0, p1, p2, q0, q1, q2⟩ := HST.out.cells
      go_wp2
      go_ret
      exact ⟨rfl, HST.out.bel⟩
    · simp only [if_true] at C1 C2 C3 C4
      have HL2 := HL.out rfl rfl
      have HI3 := Lib.hid (HI2.out rfl rfl)
      clear HL HI2
      go_wp2_with fail
      refine (C1.out _ (HE.out.below HST.out.bel)).mono ?_
      rintro e w5 ⟨rfl, bk⟩
      have HST := Lib.hid (HST.out.below bk)
      clear bk
      obtain ⟨p0, p1, p2, q0, q1, q2⟩ := HST.out.cells
      go_wp2_with fail
      refine (C2.out _ (HE.out.below HST.out.bel)).mono ?_
      rintro e w6 ⟨rfl, bk⟩
      clear p0 p1 p2 q0 q1 q2
      have HST := Lib.hid (HST.out.below bk)
      clear bk
      obtain ⟨p0, p1, p2, q0, q1, q2⟩ := HST.out.cells
      go_wp2_with fail
      refine (C3.out _ (HE.out.below HST.out.bel)).mono ?_
      rintro e w7 ⟨rfl, bk⟩
      clear p0 p1 p2 q0 q1 q2
      have HST := Lib.hid (HST.out.below bk)
      clear bk
      obtain ⟨p0, p1, p2, q0, q1, q2⟩ := HST.out.cells
      go_wp2_with fail
      refine (C4.out _ (HE.out.below HST.out.bel)).mono ?_
      rintro e w8 ⟨rfl, bk⟩
      clear p0 p1 p2 q0 q1 q2
      have HST := Lib.hid (HST.out.below bk)
      clear bk
      obtain ⟨p0, p1, p2, q0, q1, q2⟩ := HST.out.cells
      go_wp2_with fail
      refine (C5.out _ (HE.out.below HST.out.bel)).mono ?_
      rintro e w9 ⟨rfl, bk⟩
      clear p0 p1 p2 q0 q1 q2
      have HST := Lib.hid (HST.out.below bk)
      clear bk
      obtain ⟨p0, p1, p2, q0, q1, q2⟩ := HST.out.cells
      go_wp2_with fail
      refine (C6.out _ (HE.out.below HST.out.bel)).mono ?_
      rintro e w10 ⟨rfl, bk⟩
      clear p0 p1 p2 q0 q1 q2
      have HST := Lib.hid (HST.out.below bk)
      clear bk
      obtain ⟨p0, p1, p2, q0, q1, q2⟩ := HST.out.cells
      go_wp2
      all_goals go_ret
      all_goals refine ⟨ret_bool ?_, HST.out.bel⟩
      all_goals have h3 := HI3.out
      all_goals simp
      all_goals omega
  · have hd : decide (n ≤ 400) = false := by simp; omega
    rw [hd]
    clear hd
    go_wp2_with fail
    refine (awake3_any w1 hE1.out).mono ?_
    rintro e w2 ⟨rfl, b2⟩
    go_wp2
    go_ret
    exact ⟨rfl, b1.trans (b2.mono b1.size)⟩
end Go.Proofs.YtlgnppfompeghaaDoor
