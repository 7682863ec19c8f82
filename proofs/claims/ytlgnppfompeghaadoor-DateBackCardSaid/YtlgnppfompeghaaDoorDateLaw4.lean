/- The walk of DateBack. -/
import Derived.Test.YtlgnppfompeghaaDoorDateFrom2
import Derived.Test.YtlgnppfompeghaaDoorDateLaw2
namespace Go.Proofs.YtlgnppfompeghaaDoor
open Go.RowKit
set_option linter.unusedVariables false

theorem from_in {n : Int} {v : Value} (h : FromIs n v) (h0 : 0 ≤ n) (h1 : n < 146097) : ∃ y m d, DM.valid y m d = true ∧ DM.day y m d = n ∧ v = .tuple #[dateV y m d, .int .i64 0] := by
  unfold FromIs at h
  rwa [if_pos ⟨h0, h1⟩] at h
theorem from_out {n : Int} {v : Value} (h : FromIs n v) (h1 : n < 0 ∨ 146097 ≤ n) : v = .tuple #[dateV 0 0 0, .int .i64 2] := by
  unfold FromIs at h
  rwa [if_neg (by omega)] at h
theorem last_day {y m d : Int} (h : DM.valid y m d = true) (he : DM.day y m d = 146096) : y = 2199 ∧ m = 12 ∧ d = 31 :=
  DM.day_inj h (by decide) (he.trans (by decide))

set_option maxHeartbeats 4000000 in
set_option maxRecDepth 100000 in
theorem DateBack_walk (n : Int) (w : World) (hE : DEnv w) (hn0 : 0 ≤ n) (hn1 : n ≤ 4294967295) :
    Calls Tryd.prog 4 #[.int .u32 n] w fun e w' => e = .returned (.bool true) ∧ Below w.heap.size w w' := by
  have HE := Lib.hid hE
  clear hE
  have hk0 : 0 ≤ n % 150000 := by omega
  have hk1 : n % 150000 < 150000 := by omega
  go_enter Tryd.func4, Tryd.ntmps4
  go_wp2_with fail
  refine (awake3_any w HE.out).mono ?_
  rintro e w1 ⟨rfl, b1⟩
  have B1 := Lib.hid b1
  clear b1
  go_wp2_with fail
  generalize n % 150000 = k at *
  refine (FromDay_any k w1 (HE.out.below B1.out) (by omega) (by omega)).mono ?_
  rintro e w2 ⟨v, rfl, hv, b2⟩
  have B2 := Lib.hid (below_then B1.out b2)
  clear b2
  by_cases hlt : k < 146097
  · obtain ⟨y, m, d, hva, hda, rfl⟩ := from_in hv hk0 hlt
    clear hv
    have B3 := Lib.hid (below_then B2.out (below_new w2 (.cells #[.int .i64 y, .int .i64 m, .int .i64 d] 24)))
    have P3 := Lib.hid (dateAt_new w2 y m d rfl)
    obtain ⟨hy, hm, hd⟩ := DM.valid_iff.1 hva
    have hl := DM.len_pos y m
    obtain ⟨y1, y2⟩ := hy
    obtain ⟨m1, m2⟩ := hm
    obtain ⟨d1, d2⟩ := hd
    have d3 : d ≤ 31 := by omega
    clear d2 hl
    have C1 := Lib.hid (fun W hW => Day_any y m d W hW)
    rw [show dayV y m d = .tuple #[.int .i64 k, .int .i64 0] by unfold dayV; rw [hva, hda]; rfl] at C1
    have C2 := Lib.hid (fun W hW => Valid_any y m d W hW)
    rw [hva] at C2
    have C3 := Lib.hid (fun W hW => Valid_any y m (d + 1) W hW)
    unfold dateV at C1 C2 C3
    unfold dateV
    have HV := Lib.hid hva
    have HD := Lib.hid hda
    clear hva hda
    go_wp2_with fail
    refine (C1.out _ (HE.out.below B3.out)).mono ?_
    rintro e w3 ⟨rfl, b4⟩
    have B4 := Lib.hid (below_then B3.out b4)
    have P4 := Lib.hid (P3.out.below b4 (Nat.le_refl _))
    clear b4
    go_wp2_with fail
    refine (FromDay_any (k + 1) w3 (HE.out.below B4.out) (by omega) (by omega)).mono ?_
    rintro e w4 ⟨v, rfl, hv, b5⟩
    have B5 := Lib.hid (below_then B4.out b5)
    have P5 := Lib.hid (P4.out.below b5 (Nat.le_refl _))
    clear b5
    by_cases hlt2 : k + 1 < 146097
    · obtain ⟨y', m', d', hva', hda', rfl⟩ := from_in hv (by omega) hlt2
      clear hv
      have HN := DM.next_day HV.out hva' (by rw [hda', HD.out])
      have HST := Lib.hid (show D2 w2.heap.size w4.heap.size y m d y' m' d' w (w4.alloc (.cells #[.int .i64 y', .int .i64 m', .int .i64 d'] 24)) from ⟨P5.out.alloc _, dateAt_new w4 y' m' d' rfl, below_then B5.out (below_new w4 _)⟩)
      clear hva' hda' HD B5 P5 P4 P3 B4 B3 B2 B1
      unfold dateV
      obtain ⟨p0, p1, p2, q0, q1, q2⟩ := HST.out.cells
      go_wp2_with fail
      refine (C2.out _ (HE.out.below HST.out.bel)).mono ?_
      rintro e w5 ⟨rfl, b6⟩
      clear p0 p1 p2 q0 q1 q2
      have HST := Lib.hid (HST.out.below b6)
      clear b6
      obtain ⟨p0, p1, p2, q0, q1, q2⟩ := HST.out.cells
      rcases HN with ⟨rfl, rfl, rfl⟩ | ⟨hne, rfl, hnv, hn⟩
      · go_wp2
        go_ret
        exact ⟨rfl, HST.out.bel⟩
      · rw [hnv] at C3
        have t1 : ((1 : Int) == d + 1) = false := by simp; omega
        go_wp2_with fail
        refine (C3.out _ (HE.out.below HST.out.bel)).mono ?_
        rintro e w6 ⟨rfl, b6⟩
        clear p0 p1 p2 q0 q1 q2
        have HST := Lib.hid (HST.out.below b6)
        clear b6
        obtain ⟨p0, p1, p2, q0, q1, q2⟩ := HST.out.cells
        rcases hn with ⟨rfl, rfl⟩ | ⟨rfl, rfl, rfl, -⟩
        · go_wp2
          go_ret
          exact ⟨rfl, HST.out.bel⟩
        · go_wp2
          go_ret
          exact ⟨rfl, HST.out.bel⟩
    · obtain rfl := from_out hv (.inr (by omega))
      obtain ⟨rfl, rfl, rfl⟩ := last_day HV.out (by rw [HD.out]; omega)
      clear hv
      have HST := Lib.hid (show D2 w2.heap.size w4.heap.size 2199 12 31 0 0 0 w (w4.alloc (.cells #[.int .i64 0, .int .i64 0, .int .i64 0] 24)) from ⟨P5.out.alloc _, dateAt_new w4 0 0 0 rfl, below_then B5.out (below_new w4 _)⟩)
      clear B5 P5 P4 P3 B4 B3 B2 B1
      unfold dateV
      obtain ⟨p0, p1, p2, q0, q1, q2⟩ := HST.out.cells
      go_wp2_with fail
      refine (C2.out _ (HE.out.below HST.out.bel)).mono ?_
      rintro e w5 ⟨rfl, b6⟩
      clear p0 p1 p2 q0 q1 q2
      have HST := Lib.hid (HST.out.below b6)
      clear b6
      obtain ⟨p0, p1, p2, q0, q1, q2⟩ := HST.out.cells
      go_wp2
      go_ret
      exact ⟨rfl, HST.out.bel⟩
  · obtain rfl := from_out hv (.inr (by omega))
    clear hv
    have B3 := Lib.hid (below_then B2.out (below_new w2 (.cells #[.int .i64 0, .int .i64 0, .int .i64 0] 24)))
    unfold dateV
    go_wp2
    go_ret
    exact ⟨rfl, B3.out⟩
end Go.Proofs.YtlgnppfompeghaaDoor
