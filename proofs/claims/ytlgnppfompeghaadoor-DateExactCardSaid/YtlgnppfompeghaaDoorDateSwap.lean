/- Walks of Swapped, Age and the reference's. -/
import Derived.Test.YtlgnppfompeghaaDoorDateDay
namespace Go.Proofs.YtlgnppfompeghaaDoor
open Go.RowKit

/-- What Swapped returns. -/
def swapV (y m d : Int) : Value := if (DM.valid y m d && DM.valid y d m) = true then .tuple #[dateV y d m, .bool true] else .tuple #[dateV 0 0 0, .bool false]
/-- What Age returns. -/
def ageV (y m d y' m' d' : Int) : Value :=
  if (DM.valid y m d && DM.valid y' m' d') = true then
    (if DM.day y' m' d' < DM.day y m d then .tuple #[.int .i64 0, .int .i64 2]
     else .tuple #[.int .i64 (y' - y - (if m' < m ∨ m' = m ∧ d' < d then 1 else 0)), .int .i64 0])
  else .tuple #[.int .i64 0, .int .i64 4]

set_option maxHeartbeats 2000000 in
theorem Swapped_any (y m d : Int) (w : World) (hE : DEnv w) :
    Calls Tryd.prog 20 #[dateV y m d] w fun e w' => e = .returned (swapV y m d) ∧ Below w.heap.size w w' := by
  have HE := Lib.hid hE
  clear hE
  have C1 := Lib.hid (fun W hW => Valid_any y m d W hW)
  have C2 := Lib.hid (fun W hW => Valid_any y d m W hW)
  unfold dateV at *
  cases hv : DM.valid y m d
  · have F := Lib.hid (show swapV y m d = .tuple #[dateV 0 0 0, .bool false] by unfold swapV; rw [hv]; rfl)
    rw [hv] at C1
    go_enter Tryd.func20, Tryd.ntmps20
    go_wp2_with fail
    refine (C1.out _ (HE.out.below (below_new3 w _ _ _))).mono ?_
    rintro e w1 ⟨rfl, b1⟩
    obtain ⟨r0, r1, r2, r3, r4, r5⟩ := (((dateAt_new (b := w.heap.size + 1) (w.alloc _) 0 0 0 (by simp)).alloc _).below b1 (Nat.le_refl _)).parts
    have B3 := Lib.hid (below_then (below_new3 w _ _ _) b1)
    clear b1
    go_wp2
    exact bodyPost_ret (v := .tuple #[dateV 0 0 0, .bool false]) (by simp [results, Tryd.results20, dateV, go_sem, r0, r1, r2]) rfl ⟨congrArg Ending.returned F.out.symm, below_set3 B3.out (Nat.le_succ _) _ _ _⟩
  · rw [hv] at C1
    go_enter Tryd.func20, Tryd.ntmps20
    go_wp2_with fail
    refine (C1.out _ (HE.out.below (below_new3 w _ _ _))).mono ?_
    rintro e w1 ⟨rfl, b1⟩
    have q := (dateAt_new (b := w.heap.size + 1 + 1) ((w.alloc _).alloc _) y d m (by simp)).below b1 (Nat.le_refl _)
    have r := ((dateAt_new (b := w.heap.size + 1) (w.alloc _) 0 0 0 (by simp)).alloc _).below b1 (Nat.le_refl _)
    have B3 := Lib.hid (below_then (below_new3 w _ _ _) b1)
    clear b1
    have Q := Lib.hid q
    have R := Lib.hid r
    obtain ⟨q0, q1, q2, q3, q4, q5⟩ := q.parts
    clear r
    cases hv2 : DM.valid y d m
    · have F := Lib.hid (show swapV y m d = .tuple #[dateV 0 0 0, .bool false] by unfold swapV; rw [hv, hv2]; rfl)
      rw [hv2] at C2
      go_wp2_with fail
      refine (C2.out _ (HE.out.below B3.out)).mono ?_
      rintro e w2 ⟨rfl, b2⟩
      obtain ⟨r0, r1, r2, r3, r4, r5⟩ := (R.out.below b2 (Nat.le_refl _)).parts
      have B4 := Lib.hid (below_then B3.out b2)
      clear b2
      go_wp2
      exact bodyPost_ret (v := .tuple #[dateV 0 0 0, .bool false]) (by simp [results, Tryd.results20, dateV, go_sem, r0, r1, r2]) rfl ⟨congrArg Ending.returned F.out.symm, below_set3 B4.out (Nat.le_succ _) _ _ _⟩
    · have F := Lib.hid (show swapV y m d = .tuple #[dateV y d m, .bool true] by unfold swapV; rw [hv, hv2]; rfl)
      rw [hv2] at C2
      go_wp2_with fail
      refine (C2.out _ (HE.out.below B3.out)).mono ?_
      rintro e w2 ⟨rfl, b2⟩
      clear q0 q1 q2 q3 q4 q5
      obtain ⟨q0, q1, q2, q3, q4, q5⟩ := (Q.out.below b2 (Nat.le_refl _)).parts
      obtain ⟨r0, r1, r2, r3, r4, r5⟩ := (R.out.below b2 (Nat.le_refl _)).parts
      have B4 := Lib.hid (below_then B3.out b2)
      clear b2
      go_wp2
      exact bodyPost_ret (v := .tuple #[dateV y d m, .bool true]) (by simp [results, Tryd.results20, dateV, go_sem, r0, r1, r2]) rfl ⟨congrArg Ending.returned F.out.symm, below_set3 B4.out (Nat.le_succ _) _ _ _⟩

set_option maxHeartbeats 2000000 in
theorem rSwapped_any (y m d : Int) (w : World) :
    Calls Tryd.prog 21 #[dateV y m d] w fun e w' => e = .returned (swapV y m d) ∧ Below w.heap.size w w' := by
  have C1 := Lib.hid (fun W => rValid_any y m d W)
  have C2 := Lib.hid (fun W => rValid_any y d m W)
  unfold dateV at *
  cases hv : DM.valid y m d
  · have F := Lib.hid (show swapV y m d = .tuple #[dateV 0 0 0, .bool false] by unfold swapV; rw [hv]; rfl)
    rw [hv] at C1
    go_enter Tryd.func21, Tryd.ntmps21
    go_wp2_with fail
    refine (C1.out _).mono ?_
    rintro e w1 ⟨rfl, b1⟩
    obtain ⟨r0, r1, r2, r3, r4, r5⟩ := (((dateAt_new (b := w.heap.size + 1) (w.alloc _) 0 0 0 (by simp)).alloc _).below b1 (Nat.le_refl _)).parts
    have B3 := Lib.hid (below_then (below_new3 w _ _ _) b1)
    clear b1
    go_wp2
    exact bodyPost_ret (v := .tuple #[dateV 0 0 0, .bool false]) (by simp [results, Tryd.results21, dateV, go_sem, r0, r1, r2]) rfl ⟨congrArg Ending.returned F.out.symm, below_set3 B3.out (Nat.le_succ _) _ _ _⟩
  · rw [hv] at C1
    go_enter Tryd.func21, Tryd.ntmps21
    go_wp2_with fail
    refine (C1.out _).mono ?_
    rintro e w1 ⟨rfl, b1⟩
    have q := (dateAt_new (b := w.heap.size + 1 + 1) ((w.alloc _).alloc _) y d m (by simp)).below b1 (Nat.le_refl _)
    have r := ((dateAt_new (b := w.heap.size + 1) (w.alloc _) 0 0 0 (by simp)).alloc _).below b1 (Nat.le_refl _)
    have B3 := Lib.hid (below_then (below_new3 w _ _ _) b1)
    clear b1
    have Q := Lib.hid q
    have R := Lib.hid r
    obtain ⟨q0, q1, q2, q3, q4, q5⟩ := q.parts
    clear r
    cases hv2 : DM.valid y d m
    · have F := Lib.hid (show swapV y m d = .tuple #[dateV 0 0 0, .bool false] by unfold swapV; rw [hv, hv2]; rfl)
      rw [hv2] at C2
      go_wp2_with fail
      refine (C2.out _).mono ?_
      rintro e w2 ⟨rfl, b2⟩
      obtain ⟨r0, r1, r2, r3, r4, r5⟩ := (R.out.below b2 (Nat.le_refl _)).parts
      have B4 := Lib.hid (below_then B3.out b2)
      clear b2
      go_wp2
      exact bodyPost_ret (v := .tuple #[dateV 0 0 0, .bool false]) (by simp [results, Tryd.results21, dateV, go_sem, r0, r1, r2]) rfl ⟨congrArg Ending.returned F.out.symm, below_set3 B4.out (Nat.le_succ _) _ _ _⟩
    · have F := Lib.hid (show swapV y m d = .tuple #[dateV y d m, .bool true] by unfold swapV; rw [hv, hv2]; rfl)
      rw [hv2] at C2
      go_wp2_with fail
      refine (C2.out _).mono ?_
      rintro e w2 ⟨rfl, b2⟩
      clear q0 q1 q2 q3 q4 q5
      obtain ⟨q0, q1, q2, q3, q4, q5⟩ := (Q.out.below b2 (Nat.le_refl _)).parts
      obtain ⟨r0, r1, r2, r3, r4, r5⟩ := (R.out.below b2 (Nat.le_refl _)).parts
      have B4 := Lib.hid (below_then B3.out b2)
      clear b2
      go_wp2
      exact bodyPost_ret (v := .tuple #[dateV y d m, .bool true]) (by simp [results, Tryd.results21, dateV, go_sem, r0, r1, r2]) rfl ⟨congrArg Ending.returned F.out.symm, below_set3 B4.out (Nat.le_succ _) _ _ _⟩

end Go.Proofs.YtlgnppfompeghaaDoor
