/- The walk of DateSwaps. -/
import Derived.Test.YtlgnppfompeghaaDoorDateDeck
import Derived.Test.YtlgnppfompeghaaDoorDateAge
namespace Go.Proofs.YtlgnppfompeghaaDoor
open Go.RowKit
set_option linter.unusedVariables false

theorem dealt_below {g : Nat} {w0 w w' : World} (h : Below w0.heap.size w0 w) (hg : w.grownBy w' (some g)) (hgw : w0.heap.size ≤ g) : Below w0.heap.size w0 w' :=
  h.trans (below_of_grown hg hgw h.size)

set_option maxHeartbeats 2000000 in
theorem DateSwaps_walk (A : Option Addr) (n c : Nat) (w : World) (hE : DEnv w) (hI : IntsArg w A n c) :
    Calls Tryd.prog 8 #[.slice A n c] w fun e w' => e = .returned (.bool true) ∧ Below w.heap.size w w' := by
  have HE := Lib.hid hE
  have HI := Lib.hid hI
  clear hE hI
  go_enter Tryd.func8, Tryd.ntmps8
  go_wp2_with fail
  refine (awake3_any w HE.out).mono ?_
  rintro e w1 ⟨rfl, b1⟩
  go_wp2_with fail
  refine (Few_any A n c w1 (Nat.le_trans HI.out.1 HI.out.2.1)).mono ?_
  rintro e w1' ⟨rfl, rfl⟩
  have hE1 := Lib.hid (HE.out.below b1)
  by_cases hn : n ≤ 400
  · have hd : decide (n ≤ 400) = true := by simp [hn]
    rw [hd]
    clear hd
    go_wp2_with fail
    refine (New_any A n c w1 (HI.out.below b1)).mono ?_
    rintro e w2 ⟨rfl, hd2, b2⟩
    have hgw : w.heap.size ≤ w1.heap.size := b1.size
    have B2 := Lib.hid (below_then b1 b2)
    clear b1 b2
    generalize hg : w1.heap.size = g at *
    clear hg
    go_wp2_with fail
    refine (Date_any g w2 hd2).mono ?_
    rintro e w3 ⟨y, m, d, rfl, ⟨⟨y1, y2⟩, ⟨m1, m2⟩, d1, d2⟩, hd3, g3⟩
    have B3 := Lib.hid (dealt_below B2.out g3 hgw)
    clear g3
    have P := Lib.hid (dateAt_new w3 y m d rfl)
    have B4 := Lib.hid (below_then B3.out (below_new w3 (.cells #[.int .i64 y, .int .i64 m, .int .i64 d] 24)))
    unfold dateV
    have C1 := Lib.hid (fun W hW => Swapped_any y m d W hW)
    have C2 := Lib.hid (fun W hW => Valid_any y m d W hW)
    have Z := Lib.hid (show swapV 0 0 0 = .tuple #[dateV 0 0 0, .bool false] from rfl)
    cases hv : DM.valid y m d
    · have F := Lib.hid (show swapV y m d = .tuple #[dateV 0 0 0, .bool false] by unfold swapV; rw [hv]; rfl)
      rw [F.out] at C1
      rw [hv] at C2
      have C3 := Lib.hid (fun W hW => Swapped_any 0 0 0 W hW)
      rw [Z.out] at C3
      unfold dateV at C1 C2 C3
      clear hv
      go_wp2_with fail
      refine (C1.out _ (HE.out.below B4.out)).mono ?_
      rintro e w4 ⟨rfl, b5⟩
      have B5 := Lib.hid (below_then B4.out b5)
      have P5 := Lib.hid ((P.out.below b5 (Nat.le_refl _)).alloc (.cells #[.int .i64 0, .int .i64 0, .int .i64 0] 24))
      have Q5 := Lib.hid (dateAt_new w4 0 0 0 rfl)
      have B6 := Lib.hid (below_then B5.out (below_new w4 (.cells #[.int .i64 0, .int .i64 0, .int .i64 0] 24)))
      clear b5
      obtain ⟨p0, p1, p2, -, -, -⟩ := P5.out.parts
      go_wp2_with fail
      refine (C2.out _ (HE.out.below B6.out)).mono ?_
      rintro e w5 ⟨rfl, b7⟩
      clear p0 p1 p2
      have B7 := Lib.hid (below_then B6.out b7)
      have P7 := Lib.hid (P5.out.below b7 (Nat.le_refl _))
      have Q7 := Lib.hid (Q5.out.below b7 (Nat.le_refl _))
      clear b7
      obtain ⟨p0, p1, p2, -, -, -⟩ := P7.out.parts
      obtain ⟨q0, q1, q2, -, -, -⟩ := Q7.out.parts
      go_wp2_with fail
      refine (C3.out _ (HE.out.below B7.out)).mono ?_
      rintro e w6 ⟨rfl, b8⟩
      clear p0 p1 p2 q0 q1 q2
      have B8 := Lib.hid (below_then (below_then B7.out b8) (below_new w6 (.cells #[.int .i64 0, .int .i64 0, .int .i64 0] 24)))
      obtain ⟨p0, p1, p2, -, -, -⟩ := ((P7.out.below b8 (Nat.le_refl _)).alloc (.cells #[.int .i64 0, .int .i64 0, .int .i64 0] 24)).parts
      obtain ⟨q0, q1, q2, -, -, -⟩ := ((Q7.out.below b8 (Nat.le_refl _)).alloc (.cells #[.int .i64 0, .int .i64 0, .int .i64 0] 24)).parts
      clear b8
      go_wp2
      go_ret
      exact ⟨rfl, B8.out⟩
    · cases hv2 : DM.valid y d m
      · have F := Lib.hid (show swapV y m d = .tuple #[dateV 0 0 0, .bool false] by unfold swapV; rw [hv, hv2]; rfl)
        rw [F.out] at C1
        rw [hv] at C2
        have C3 := Lib.hid (fun W hW => Swapped_any 0 0 0 W hW)
        rw [Z.out] at C3
        unfold dateV at C1 C2 C3
        have d13 : 12 < d := by
          obtain ⟨e1, e2, e3⟩ := DM.valid_iff.1 hv
          have := DM.len_pos y d
          have : ¬ DM.valid y d m = true := by rw [hv2]; decide
          rw [DM.valid_iff] at this
          omega
        clear hv hv2
        go_wp2_with fail
        refine (C1.out _ (HE.out.below B4.out)).mono ?_
        rintro e w4 ⟨rfl, b5⟩
        have B5 := Lib.hid (below_then B4.out b5)
        have P5 := Lib.hid ((P.out.below b5 (Nat.le_refl _)).alloc (.cells #[.int .i64 0, .int .i64 0, .int .i64 0] 24))
        have Q5 := Lib.hid (dateAt_new w4 0 0 0 rfl)
        have B6 := Lib.hid (below_then B5.out (below_new w4 (.cells #[.int .i64 0, .int .i64 0, .int .i64 0] 24)))
        clear b5
        obtain ⟨p0, p1, p2, -, -, -⟩ := P5.out.parts
        go_wp2_with fail
        refine (C2.out _ (HE.out.below B6.out)).mono ?_
        rintro e w5 ⟨rfl, b7⟩
        clear p0 p1 p2
        have B7 := Lib.hid (below_then B6.out b7)
        have P7 := Lib.hid (P5.out.below b7 (Nat.le_refl _))
        have Q7 := Lib.hid (Q5.out.below b7 (Nat.le_refl _))
        clear b7
        obtain ⟨p0, p1, p2, -, -, -⟩ := P7.out.parts
        obtain ⟨q0, q1, q2, -, -, -⟩ := Q7.out.parts
        go_wp2_with fail
        refine (C3.out _ (HE.out.below B7.out)).mono ?_
        rintro e w6 ⟨rfl, b8⟩
        clear p0 p1 p2 q0 q1 q2
        have B8 := Lib.hid (below_then (below_then B7.out b8) (below_new w6 (.cells #[.int .i64 0, .int .i64 0, .int .i64 0] 24)))
        obtain ⟨p0, p1, p2, -, -, -⟩ := ((P7.out.below b8 (Nat.le_refl _)).alloc (.cells #[.int .i64 0, .int .i64 0, .int .i64 0] 24)).parts
        obtain ⟨q0, q1, q2, -, -, -⟩ := ((Q7.out.below b8 (Nat.le_refl _)).alloc (.cells #[.int .i64 0, .int .i64 0, .int .i64 0] 24)).parts
        clear b8
        go_wp2
        go_ret
        exact ⟨rfl, B8.out⟩
      · have F := Lib.hid (show swapV y m d = .tuple #[dateV y d m, .bool true] by unfold swapV; rw [hv, hv2]; rfl)
        rw [F.out] at C1
        rw [hv] at C2
        have C3 := Lib.hid (fun W hW => Swapped_any y d m W hW)
        rw [show swapV y d m = .tuple #[dateV y m d, .bool true] by unfold swapV; rw [hv, hv2]; rfl] at C3
        unfold dateV at C1 C2 C3
        have d12 : d ≤ 12 := (DM.valid_iff.1 hv2).2.1.2
        clear hv hv2
        go_wp2_with fail
        refine (C1.out _ (HE.out.below B4.out)).mono ?_
        rintro e w4 ⟨rfl, b5⟩
        have B5 := Lib.hid (below_then B4.out b5)
        have P5 := Lib.hid ((P.out.below b5 (Nat.le_refl _)).alloc (.cells #[.int .i64 y, .int .i64 d, .int .i64 m] 24))
        have Q5 := Lib.hid (dateAt_new w4 y d m rfl)
        have B6 := Lib.hid (below_then B5.out (below_new w4 (.cells #[.int .i64 y, .int .i64 d, .int .i64 m] 24)))
        clear b5
        obtain ⟨p0, p1, p2, -, -, -⟩ := P5.out.parts
        go_wp2_with fail
        refine (C2.out _ (HE.out.below B6.out)).mono ?_
        rintro e w5 ⟨rfl, b7⟩
        clear p0 p1 p2
        have B7 := Lib.hid (below_then B6.out b7)
        have P7 := Lib.hid (P5.out.below b7 (Nat.le_refl _))
        have Q7 := Lib.hid (Q5.out.below b7 (Nat.le_refl _))
        clear b7
        obtain ⟨p0, p1, p2, -, -, -⟩ := P7.out.parts
        obtain ⟨q0, q1, q2, -, -, -⟩ := Q7.out.parts
        go_wp2_with fail
        refine (C3.out _ (HE.out.below B7.out)).mono ?_
        rintro e w6 ⟨rfl, b8⟩
        clear p0 p1 p2 q0 q1 q2
        have B8 := Lib.hid (below_then (below_then B7.out b8) (below_new w6 (.cells #[.int .i64 y, .int .i64 m, .int .i64 d] 24)))
        obtain ⟨p0, p1, p2, -, -, -⟩ := ((P7.out.below b8 (Nat.le_refl _)).alloc (.cells #[.int .i64 y, .int .i64 m, .int .i64 d] 24)).parts
        obtain ⟨q0, q1, q2, -, -, -⟩ := ((Q7.out.below b8 (Nat.le_refl _)).alloc (.cells #[.int .i64 y, .int .i64 m, .int .i64 d] 24)).parts
        clear b8
        go_wp2
        go_ret
        exact ⟨rfl, B8.out⟩
  · have hd : decide (n ≤ 400) = false := by simp; omega
    rw [hd]
    clear hd
    go_wp2_with fail
    refine (awake3_any w1 hE1.out).mono ?_
    rintro e w2 ⟨rfl, b2⟩
    go_wp2
    go_ret
    exact ⟨rfl, b1.trans (b2.mono b1.size)⟩
end Go.Proofs.YtlgnppfompeghaaDoor
