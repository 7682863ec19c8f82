/- Walks of Age and the reference's. -/
import Derived.Test.YtlgnppfompeghaaDoorDateSwap
namespace Go.Proofs.YtlgnppfompeghaaDoor
open Go.RowKit

set_option maxHeartbeats 2000000 in
theorem Age_any (y m d y' m' d' : Int) (w : World) (hE : DEnv w) :
    Calls Tryd.prog 14 #[dateV y m d, dateV y' m' d'] w fun e w' => e = .returned (ageV y m d y' m' d') ∧ Below w.heap.size w w' := by
  have HE := Lib.hid hE
  clear hE
  have C1 := Lib.hid (fun W hW => Day_any y m d W hW)
  have C2 := Lib.hid (fun W hW => Day_any y' m' d' W hW)
  unfold dateV dayV at *
  cases hv : DM.valid y m d
  · have F := Lib.hid (show ageV y m d y' m' d' = .tuple #[.int .i64 0, .int .i64 4] by unfold ageV; rw [hv]; rfl)
    rw [hv] at C1
    simp only [Bool.false_eq_true, if_false] at C1
    cases hv2 : DM.valid y' m' d' <;> rw [hv2] at C2
    · simp only [Bool.false_eq_true, if_false] at C2
      clear hv hv2
      go_enter Tryd.func14, Tryd.ntmps14
      go_wp2_with fail
      refine (C1.out _ (HE.out.below (below_new2 w _ _))).mono ?_
      rintro e w1 ⟨rfl, b1⟩
      have P := Lib.hid (((dateAt_new w y m d rfl).alloc _).below b1 (Nat.le_refl _))
      have Q := Lib.hid ((dateAt_new (b := w.heap.size + 1) (w.alloc _) y' m' d' (by simp)).below b1 (Nat.le_refl _))
      have B1 := Lib.hid (below_then (below_new2 w _ _) b1)
      clear b1
      obtain ⟨q0, q1, q2, -, -, -⟩ := Q.out.parts
      go_wp2_with fail
      refine (C2.out _ (HE.out.below B1.out)).mono ?_
      rintro e w2 ⟨rfl, b2⟩
      clear q0 q1 q2
      obtain ⟨q0, q1, q2, -, -, -⟩ := (Q.out.below b2 (Nat.le_refl _)).parts
      obtain ⟨p0, p1, p2, -, -, -⟩ := (P.out.below b2 (Nat.le_refl _)).parts
      have B2 := Lib.hid (below_then B1.out b2)
      clear b2
      go_wp2
      go_ret2
      exact ⟨congrArg Ending.returned F.out.symm, B2.out⟩
    · simp only [if_true] at C2
      clear hv hv2
      generalize DM.day y' m' d' = D' at *
      go_enter Tryd.func14, Tryd.ntmps14
      go_wp2_with fail
      refine (C1.out _ (HE.out.below (below_new2 w _ _))).mono ?_
      rintro e w1 ⟨rfl, b1⟩
      have P := Lib.hid (((dateAt_new w y m d rfl).alloc _).below b1 (Nat.le_refl _))
      have Q := Lib.hid ((dateAt_new (b := w.heap.size + 1) (w.alloc _) y' m' d' (by simp)).below b1 (Nat.le_refl _))
      have B1 := Lib.hid (below_then (below_new2 w _ _) b1)
      clear b1
      obtain ⟨q0, q1, q2, -, -, -⟩ := Q.out.parts
      go_wp2_with fail
      refine (C2.out _ (HE.out.below B1.out)).mono ?_
      rintro e w2 ⟨rfl, b2⟩
      clear q0 q1 q2
      obtain ⟨q0, q1, q2, -, -, -⟩ := (Q.out.below b2 (Nat.le_refl _)).parts
      obtain ⟨p0, p1, p2, -, -, -⟩ := (P.out.below b2 (Nat.le_refl _)).parts
      have B2 := Lib.hid (below_then B1.out b2)
      clear b2
      go_wp2
      go_ret2
      exact ⟨congrArg Ending.returned F.out.symm, B2.out⟩
  · cases hv2 : DM.valid y' m' d'
    · have F := Lib.hid (show ageV y m d y' m' d' = .tuple #[.int .i64 0, .int .i64 4] by unfold ageV; rw [hv, hv2]; rfl)
      rw [hv] at C1
      rw [hv2] at C2
      simp only [if_true] at C1
      simp only [Bool.false_eq_true, if_false] at C2
      clear hv hv2
      generalize DM.day y m d = D at *
      go_enter Tryd.func14, Tryd.ntmps14
      go_wp2_with fail
      refine (C1.out _ (HE.out.below (below_new2 w _ _))).mono ?_
      rintro e w1 ⟨rfl, b1⟩
      have P := Lib.hid (((dateAt_new w y m d rfl).alloc _).below b1 (Nat.le_refl _))
      have Q := Lib.hid ((dateAt_new (b := w.heap.size + 1) (w.alloc _) y' m' d' (by simp)).below b1 (Nat.le_refl _))
      have B1 := Lib.hid (below_then (below_new2 w _ _) b1)
      clear b1
      obtain ⟨q0, q1, q2, -, -, -⟩ := Q.out.parts
      go_wp2_with fail
      refine (C2.out _ (HE.out.below B1.out)).mono ?_
      rintro e w2 ⟨rfl, b2⟩
      clear q0 q1 q2
      obtain ⟨q0, q1, q2, -, -, -⟩ := (Q.out.below b2 (Nat.le_refl _)).parts
      obtain ⟨p0, p1, p2, -, -, -⟩ := (P.out.below b2 (Nat.le_refl _)).parts
      have B2 := Lib.hid (below_then B1.out b2)
      clear b2
      go_wp2
      go_ret2
      exact ⟨congrArg Ending.returned F.out.symm, B2.out⟩
    · have F := Lib.hid (show ageV y m d y' m' d' = if DM.day y' m' d' < DM.day y m d then .tuple #[.int .i64 0, .int .i64 2] else .tuple #[.int .i64 (y' - y - (if m' < m ∨ m' = m ∧ d' < d then 1 else 0)), .int .i64 0] by unfold ageV; rw [hv, hv2]; rfl)
      rw [hv] at C1
      rw [hv2] at C2
      simp only [if_true] at C1
      simp only [if_true] at C2
      obtain ⟨⟨y1, y2⟩, ⟨m1, m2⟩, d1, d2⟩ := DM.valid_iff.1 hv
      obtain ⟨⟨y1', y2'⟩, ⟨m1', m2'⟩, d1', d2'⟩ := DM.valid_iff.1 hv2
      clear hv hv2 d2 d2'
      generalize DM.day y m d = D at *
      generalize DM.day y' m' d' = D' at *
      go_enter Tryd.func14, Tryd.ntmps14
      go_wp2_with fail
      refine (C1.out _ (HE.out.below (below_new2 w _ _))).mono ?_
      rintro e w1 ⟨rfl, b1⟩
      have P := Lib.hid (((dateAt_new w y m d rfl).alloc _).below b1 (Nat.le_refl _))
      have Q := Lib.hid ((dateAt_new (b := w.heap.size + 1) (w.alloc _) y' m' d' (by simp)).below b1 (Nat.le_refl _))
      have B1 := Lib.hid (below_then (below_new2 w _ _) b1)
      clear b1
      obtain ⟨q0, q1, q2, -, -, -⟩ := Q.out.parts
      go_wp2_with fail
      refine (C2.out _ (HE.out.below B1.out)).mono ?_
      rintro e w2 ⟨rfl, b2⟩
      clear q0 q1 q2
      obtain ⟨q0, q1, q2, -, -, -⟩ := (Q.out.below b2 (Nat.le_refl _)).parts
      obtain ⟨p0, p1, p2, -, -, -⟩ := (P.out.below b2 (Nat.le_refl _)).parts
      have B2 := Lib.hid (below_then B1.out b2)
      clear b2
      go_wp2
      all_goals go_ret2
      all_goals refine ⟨congrArg Ending.returned ?_, B2.out⟩
      all_goals rw [F.out]
      all_goals clear F C1 C2 B1 B2 P Q
      all_goals repeat' split
      all_goals first | rfl | (exfalso; omega) | (simp; done)

set_option maxHeartbeats 2000000 in
theorem rAge_any (y m d y' m' d' : Int) (w : World) :
    Calls Tryd.prog 15 #[dateV y m d, dateV y' m' d'] w fun e w' => e = .returned (ageV y m d y' m' d') ∧ Below w.heap.size w w' := by
  have C1 := Lib.hid (fun W => rDay_any y m d W)
  have C2 := Lib.hid (fun W => rDay_any y' m' d' W)
  unfold dateV dayV at *
  cases hv : DM.valid y m d
  · have F := Lib.hid (show ageV y m d y' m' d' = .tuple #[.int .i64 0, .int .i64 4] by unfold ageV; rw [hv]; rfl)
    rw [hv] at C1
    simp only [Bool.false_eq_true, if_false] at C1
    cases hv2 : DM.valid y' m' d' <;> rw [hv2] at C2
    · simp only [Bool.false_eq_true, if_false] at C2
      clear hv hv2
      go_enter Tryd.func15, Tryd.ntmps15
      go_wp2_with fail
      refine (C1.out _).mono ?_
      rintro e w1 ⟨rfl, b1⟩
      have P := Lib.hid (((dateAt_new w y m d rfl).alloc _).below b1 (Nat.le_refl _))
      have Q := Lib.hid ((dateAt_new (b := w.heap.size + 1) (w.alloc _) y' m' d' (by simp)).below b1 (Nat.le_refl _))
      have B1 := Lib.hid (below_then (below_new2 w _ _) b1)
      clear b1
      obtain ⟨q0, q1, q2, -, -, -⟩ := Q.out.parts
      go_wp2_with fail
      refine (C2.out _).mono ?_
      rintro e w2 ⟨rfl, b2⟩
      clear q0 q1 q2
      obtain ⟨q0, q1, q2, -, -, -⟩ := (Q.out.below b2 (Nat.le_refl _)).parts
      obtain ⟨p0, p1, p2, -, -, -⟩ := (P.out.below b2 (Nat.le_refl _)).parts
      have B2 := Lib.hid (below_then B1.out b2)
      clear b2
      go_wp2
      go_ret2
      exact ⟨congrArg Ending.returned F.out.symm, B2.out⟩
    · simp only [if_true] at C2
      clear hv hv2
      generalize DM.day y' m' d' = D' at *
      go_enter Tryd.func15, Tryd.ntmps15
      go_wp2_with fail
      refine (C1.out _).mono ?_
      rintro e w1 ⟨rfl, b1⟩
      have P := Lib.hid (((dateAt_new w y m d rfl).alloc _).below b1 (Nat.le_refl _))
      have Q := Lib.hid ((dateAt_new (b := w.heap.size + 1) (w.alloc _) y' m' d' (by simp)).below b1 (Nat.le_refl _))
      have B1 := Lib.hid (below_then (below_new2 w _ _) b1)
      clear b1
      obtain ⟨q0, q1, q2, -, -, -⟩ := Q.out.parts
      go_wp2_with fail
      refine (C2.out _).mono ?_
      rintro e w2 ⟨rfl, b2⟩
      clear q0 q1 q2
      obtain ⟨q0, q1, q2, -, -, -⟩ := (Q.out.below b2 (Nat.le_refl _)).parts
      obtain ⟨p0, p1, p2, -, -, -⟩ := (P.out.below b2 (Nat.le_refl _)).parts
      have B2 := Lib.hid (below_then B1.out b2)
      clear b2
      go_wp2
      go_ret2
      exact ⟨congrArg Ending.returned F.out.symm, B2.out⟩
  · cases hv2 : DM.valid y' m' d'
    · have F := Lib.hid (show ageV y m d y' m' d' = .tuple #[.int .i64 0, .int .i64 4] by unfold ageV; rw [hv, hv2]; rfl)
      rw [hv] at C1
      rw [hv2] at C2
      simp only [if_true] at C1
      simp only [Bool.false_eq_true, if_false] at C2
      clear hv hv2
      generalize DM.day y m d = D at *
      go_enter Tryd.func15, Tryd.ntmps15
      go_wp2_with fail
      refine (C1.out _).mono ?_
      rintro e w1 ⟨rfl, b1⟩
      have P := Lib.hid (((dateAt_new w y m d rfl).alloc _).below b1 (Nat.le_refl _))
      have Q := Lib.hid ((dateAt_new (b := w.heap.size + 1) (w.alloc _) y' m' d' (by simp)).below b1 (Nat.le_refl _))
      have B1 := Lib.hid (below_then (below_new2 w _ _) b1)
      clear b1
      obtain ⟨q0, q1, q2, -, -, -⟩ := Q.out.parts
      go_wp2_with fail
      refine (C2.out _).mono ?_
      rintro e w2 ⟨rfl, b2⟩
      clear q0 q1 q2
      obtain ⟨q0, q1, q2, -, -, -⟩ := (Q.out.below b2 (Nat.le_refl _)).parts
      obtain ⟨p0, p1, p2, -, -, -⟩ := (P.out.below b2 (Nat.le_refl _)).parts
      have B2 := Lib.hid (below_then B1.out b2)
      clear b2
      go_wp2
      go_ret2
      exact ⟨congrArg Ending.returned F.out.symm, B2.out⟩
    · have F := Lib.hid (show ageV y m d y' m' d' = if DM.day y' m' d' < DM.day y m d then .tuple #[.int .i64 0, .int .i64 2] else .tuple #[.int .i64 (y' - y - (if m' < m ∨ m' = m ∧ d' < d then 1 else 0)), .int .i64 0] by unfold ageV; rw [hv, hv2]; rfl)
      rw [hv] at C1
      rw [hv2] at C2
      simp only [if_true] at C1
      simp only [if_true] at C2
      obtain ⟨⟨y1, y2⟩, ⟨m1, m2⟩, d1, d2⟩ := DM.valid_iff.1 hv
      obtain ⟨⟨y1', y2'⟩, ⟨m1', m2'⟩, d1', d2'⟩ := DM.valid_iff.1 hv2
      clear hv hv2 d2 d2'
      generalize DM.day y m d = D at *
      generalize DM.day y' m' d' = D' at *
      go_enter Tryd.func15, Tryd.ntmps15
      go_wp2_with fail
      refine (C1.out _).mono ?_
      rintro e w1 ⟨rfl, b1⟩
      have P := Lib.hid (((dateAt_new w y m d rfl).alloc _).below b1 (Nat.le_refl _))
      have Q := Lib.hid ((dateAt_new (b := w.heap.size + 1) (w.alloc _) y' m' d' (by simp)).below b1 (Nat.le_refl _))
      have B1 := Lib.hid (below_then (below_new2 w _ _) b1)
      clear b1
      obtain ⟨q0, q1, q2, -, -, -⟩ := Q.out.parts
      go_wp2_with fail
      refine (C2.out _).mono ?_
      rintro e w2 ⟨rfl, b2⟩
      clear q0 q1 q2
      obtain ⟨q0, q1, q2, -, -, -⟩ := (Q.out.below b2 (Nat.le_refl _)).parts
      obtain ⟨p0, p1, p2, -, -, -⟩ := (P.out.below b2 (Nat.le_refl _)).parts
      have B2 := Lib.hid (below_then B1.out b2)
      clear b2
      go_wp2
      all_goals go_ret2
      all_goals refine ⟨congrArg Ending.returned ?_, B2.out⟩
      all_goals rw [F.out]
      all_goals clear F C1 C2 B1 B2 P Q
      all_goals repeat' split
      all_goals first | rfl | (exfalso; omega) | (simp; done)

end Go.Proofs.YtlgnppfompeghaaDoor
