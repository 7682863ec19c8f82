/- The walk of DateForms. -/
import Derived.Test.YtlgnppfompeghaaDoorDateForms
import Derived.Test.YtlgnppfompeghaaDoorDateLaw2
namespace Go.Proofs.YtlgnppfompeghaaDoor
open Go.RowKit
set_option linter.unusedVariables false

set_option maxHeartbeats 2000000 in
theorem DateForms_walk (A : Option Addr) (n c : Nat) (w : World) (hE : DEnv w) (hI : IntsArg w A n c) :
    Calls Tryd.prog 5 #[.slice A n c] w fun e w' => e = .returned (.bool true) ∧ Below w.heap.size w w' := by
  have HE := Lib.hid hE
  have HI := Lib.hid hI
  clear hE hI
  go_enter Tryd.func5, Tryd.ntmps5
  go_wp2_with fail
  refine (awake3_any w HE.out).mono ?_
  rintro e w1 ⟨rfl, b1⟩
  go_wp2_with fail
  refine (Few_any A n c w1 (Nat.le_trans HI.out.1 HI.out.2.1)).mono ?_
  rintro e w1' ⟨rfl, rfl⟩
  have hE1 := Lib.hid (HE.out.below b1)
  by_cases hn : n ≤ 400
  · have hd : decide (n ≤ 400) = true := by simp [hn]
    rw [hd]
    clear hd
    go_wp2_with fail
    refine (New_any A n c w1 (HI.out.below b1)).mono ?_
    rintro e w2 ⟨rfl, hd2, b2⟩
    have hgw : w.heap.size ≤ w1.heap.size := b1.size
    have B2 := Lib.hid (below_then b1 b2)
    clear b1 b2
    generalize hg : w1.heap.size = g at *
    clear hg
    go_wp2_with fail
    refine (Date_any g w2 hd2).mono ?_
    rintro e w3 ⟨y, m, d, rfl, ⟨⟨y1, y2⟩, ⟨m1, m2⟩, d1, d2⟩, hd3, g3⟩
    have B3 := Lib.hid (dealt_below B2.out g3 hgw)
    clear g3
    have P := Lib.hid (dateAt_new w3 y m d rfl)
    have B4 := Lib.hid (below_then B3.out (below_new w3 (.cells #[.int .i64 y, .int .i64 m, .int .i64 d] 24)))
    unfold dateV
    have HST := Lib.hid (show DSt w3.heap.size y m d w (w3.alloc (.cells #[.int .i64 y, .int .i64 m, .int .i64 d] 24)) from ⟨P.out, B4.out⟩)
    clear P B4 B3 B2 hd3 hd2
    generalize hp : w3.heap.size = p at *
    have hpw := Lib.hid hp
    clear hp
    have C1 := Lib.hid (fun f W h => Written_any y m d f W ⟨by omega, by omega⟩ ⟨by omega, by omega⟩ ⟨by omega, by omega⟩ h)
    have C2 := Lib.hid (fun f h => writ_val f y m d h ⟨by omega, by omega⟩ ⟨by omega, by omega⟩ ⟨by omega, by omega⟩)
    have C3 := Lib.hid (fun W hW => Valid_any y m d W hW)
    have C4 := Lib.hid (fun W hW => Format_any y m d W hW)
    cases hv : DM.valid y m d
    · have F1 := Lib.hid (show okV y m d = .tuple #[dateV 0 0 0, .int .i64 4] by unfold okV; rw [hv]; rfl)
      rw [hv] at C3
      rw [F1.out] at C2
      have C5 := Lib.hid (show rdV ⟨#[]⟩ = .tuple #[dateV 0 0 0, .int .i64 4] by rfl)
      rw [show fmtV y m d = .tuple #[.string ⟨#[]⟩, .int .i64 4] by unfold fmtV; rw [hv]; rfl] at C4
      clear hv
      unfold dateV at C1 C2 C3 C4 C5 F1
      go_wp2_with fail
      generalize w3.alloc (.cells #[.int .i64 y, .int .i64 m, .int .i64 d] 24) = w4 at *
      rw [hpw.out]
      go_loopw [5] (fun i wr => ∃ f : Int, i = .int .i64 f ∧ (0 ≤ f ∧ f ≤ 3) ∧ DSt p y m d w wr) (fun i _ => (3 - intOf i).toNat)
      case atStart => exact ⟨0, rfl, ⟨by omega, by omega⟩, HST.out⟩
      case round =>
        obtain ⟨f, rfl, ⟨hf0, hf3⟩, hst⟩ := hrel
        have HS := Lib.hid hst
        clear hst
        obtain ⟨p0, p1, p2⟩ := HS.out.cells
        by_cases hlt : f < 3
        · go_wp2_with fail
          refine (C1.out f wr ⟨hf0, hlt⟩).mono ?_
          rintro e w5 ⟨rfl, b5⟩
          have H5 := Lib.hid (HS.out.below b5)
          clear b5
          have CP := Lib.hid (Parse_any (writB f y m d) w5 (HE.out.below H5.out.bel) (by rw [writ_size]; decide))
          rw [C2.out f ⟨hf0, hlt⟩] at CP
          generalize writB f y m d = S at *
          clear p0 p1 p2
          obtain ⟨p0, p1, p2⟩ := H5.out.cells
          go_wp2_with fail
          refine CP.out.mono ?_
          rintro e w6 ⟨rfl, b6⟩
          clear p0 p1 p2
          have H6 := Lib.hid ((H5.out.below b6).below (below_new w6 (.cells #[.int .i64 0, .int .i64 0, .int .i64 0] 24)))
          have Q6 := Lib.hid (dateAt_new w6 0 0 0 rfl)
          clear b6
          obtain ⟨p0, p1, p2⟩ := H6.out.cells
          go_wp2_with fail
          refine (C3.out _ (HE.out.below H6.out.bel)).mono ?_
          rintro e w7 ⟨rfl, b7⟩
          clear p0 p1 p2
          have H7 := Lib.hid (H6.out.below b7)
          obtain ⟨p0, p1, p2⟩ := H7.out.cells
          obtain ⟨q0, q1, q2, -, -, -⟩ := (Q6.out.below b7 (Nat.le_refl _)).parts
          clear b7
          go_wp2
          exact ⟨⟨f + 1, by go_num, ⟨by omega, by omega⟩, H7.out⟩, by simp [intOf]; omega⟩
        · go_wp2_with fail
          refine (C4.out _ (HE.out.below HS.out.bel)).mono ?_
          rintro e w5 ⟨rfl, b5⟩
          have H5 := Lib.hid (HS.out.below b5)
          clear b5 p0 p1 p2
          have CR := Lib.hid (Read_any ⟨#[]⟩ w5 (HE.out.below H5.out.bel) (by decide))
          rw [C5.out] at CR
          skip
          obtain ⟨p0, p1, p2⟩ := H5.out.cells
          go_wp2_with fail
          refine CR.out.mono ?_
          rintro e w6 ⟨rfl, b6⟩
          clear p0 p1 p2
          have H6 := Lib.hid ((H5.out.below b6).below (below_new w6 (.cells #[.int .i64 0, .int .i64 0, .int .i64 0] 24)))
          have Q6 := Lib.hid (dateAt_new w6 0 0 0 rfl)
          clear b6
          obtain ⟨p0, p1, p2⟩ := H6.out.cells
          go_wp2_with fail
          refine (C3.out _ (HE.out.below H6.out.bel)).mono ?_
          rintro e w7 ⟨rfl, b7⟩
          clear p0 p1 p2
          have H7 := Lib.hid (H6.out.below b7)
          obtain ⟨p0, p1, p2⟩ := H7.out.cells
          obtain ⟨q0, q1, q2, -, -, -⟩ := (Q6.out.below b7 (Nat.le_refl _)).parts
          clear b7
          go_wp2_with fail
          refine (C3.out _ (HE.out.below H7.out.bel)).mono ?_
          rintro e w8 ⟨rfl, b8⟩
          have H8 := Lib.hid (H7.out.below b8)
          go_wp2
          go_ret
          exact ⟨rfl, H8.out.bel⟩
    · have F1 := Lib.hid (show okV y m d = .tuple #[dateV y m d, .int .i64 0] by unfold okV; rw [hv]; rfl)
      rw [hv] at C3
      rw [F1.out] at C2
      have C5 := Lib.hid (fmt_val hv)
      rw [show fmtV y m d = .tuple #[.string (fmtB y m d), .int .i64 0] by unfold fmtV; rw [hv]; rfl] at C4
      clear hv
      unfold dateV at C1 C2 C3 C4 C5 F1
      go_wp2_with fail
      generalize w3.alloc (.cells #[.int .i64 y, .int .i64 m, .int .i64 d] 24) = w4 at *
      rw [hpw.out]
      go_loopw [5] (fun i wr => ∃ f : Int, i = .int .i64 f ∧ (0 ≤ f ∧ f ≤ 3) ∧ DSt p y m d w wr) (fun i _ => (3 - intOf i).toNat)
      case atStart => exact ⟨0, rfl, ⟨by omega, by omega⟩, HST.out⟩
      case round =>
        obtain ⟨f, rfl, ⟨hf0, hf3⟩, hst⟩ := hrel
        have HS := Lib.hid hst
        clear hst
        obtain ⟨p0, p1, p2⟩ := HS.out.cells
        by_cases hlt : f < 3
        · go_wp2_with fail
          refine (C1.out f wr ⟨hf0, hlt⟩).mono ?_
          rintro e w5 ⟨rfl, b5⟩
          have H5 := Lib.hid (HS.out.below b5)
          clear b5
          have CP := Lib.hid (Parse_any (writB f y m d) w5 (HE.out.below H5.out.bel) (by rw [writ_size]; decide))
          rw [C2.out f ⟨hf0, hlt⟩] at CP
          generalize writB f y m d = S at *
          clear p0 p1 p2
          obtain ⟨p0, p1, p2⟩ := H5.out.cells
          go_wp2_with fail
          refine CP.out.mono ?_
          rintro e w6 ⟨rfl, b6⟩
          clear p0 p1 p2
          have H6 := Lib.hid ((H5.out.below b6).below (below_new w6 (.cells #[.int .i64 y, .int .i64 m, .int .i64 d] 24)))
          have Q6 := Lib.hid (dateAt_new w6 y m d rfl)
          clear b6
          obtain ⟨p0, p1, p2⟩ := H6.out.cells
          go_wp2_with fail
          refine (C3.out _ (HE.out.below H6.out.bel)).mono ?_
          rintro e w7 ⟨rfl, b7⟩
          clear p0 p1 p2
          have H7 := Lib.hid (H6.out.below b7)
          obtain ⟨p0, p1, p2⟩ := H7.out.cells
          obtain ⟨q0, q1, q2, -, -, -⟩ := (Q6.out.below b7 (Nat.le_refl _)).parts
          clear b7
          go_wp2
          exact ⟨⟨f + 1, by go_num, ⟨by omega, by omega⟩, H7.out⟩, by simp [intOf]; omega⟩
        · go_wp2_with fail
          refine (C4.out _ (HE.out.below HS.out.bel)).mono ?_
          rintro e w5 ⟨rfl, b5⟩
          have H5 := Lib.hid (HS.out.below b5)
          clear b5 p0 p1 p2
          have CR := Lib.hid (Read_any (fmtB y m d) w5 (HE.out.below H5.out.bel) (by rw [fmt_size]; decide))
          rw [C5.out] at CR
          generalize fmtB y m d = S at *
          obtain ⟨p0, p1, p2⟩ := H5.out.cells
          go_wp2_with fail
          refine CR.out.mono ?_
          rintro e w6 ⟨rfl, b6⟩
          clear p0 p1 p2
          have H6 := Lib.hid ((H5.out.below b6).below (below_new w6 (.cells #[.int .i64 y, .int .i64 m, .int .i64 d] 24)))
          have Q6 := Lib.hid (dateAt_new w6 y m d rfl)
          clear b6
          obtain ⟨p0, p1, p2⟩ := H6.out.cells
          go_wp2_with fail
          refine (C3.out _ (HE.out.below H6.out.bel)).mono ?_
          rintro e w7 ⟨rfl, b7⟩
          clear p0 p1 p2
          have H7 := Lib.hid (H6.out.below b7)
          obtain ⟨p0, p1, p2⟩ := H7.out.cells
          obtain ⟨q0, q1, q2, -, -, -⟩ := (Q6.out.below b7 (Nat.le_refl _)).parts
          clear b7
          go_wp2
          go_ret
          exact ⟨rfl, H7.out.bel⟩
  · have hd : decide (n ≤ 400) = false := by simp; omega
    rw [hd]
    clear hd
    go_wp2_with fail
    refine (awake3_any w1 hE1.out).mono ?_
    rintro e w2 ⟨rfl, b2⟩
    go_wp2
    go_ret
    exact ⟨rfl, b1.trans (b2.mono b1.size)⟩
end Go.Proofs.YtlgnppfompeghaaDoor
