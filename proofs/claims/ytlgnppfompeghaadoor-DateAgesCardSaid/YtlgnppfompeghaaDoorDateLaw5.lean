/- The walk of DateAges. -/
import Derived.Test.YtlgnppfompeghaaDoorDateAge
import Derived.Test.YtlgnppfompeghaaDoorDateLaw4
namespace Go.Proofs.YtlgnppfompeghaaDoor
open Go.RowKit
set_option linter.unusedVariables false

theorem age_full {y m d k : Int} (h : DM.valid y m d = true) (h' : DM.valid (y + k) m d = true) (hk : 0 ≤ k) : ageV y m d (y + k) m d = .tuple #[.int .i64 k, .int .i64 0] ∧ DM.day y m d ≤ DM.day (y + k) m d ∧ (1 ≤ k → DM.day y m d < DM.day (y + k) m d) := by
  have hl : 1 ≤ k → DM.day y m d < DM.day (y + k) m d := fun h1 => DM.day_lt h h' (by unfold DM.key; omega)
  have hle : DM.day y m d ≤ DM.day (y + k) m d := by
    rcases Int.lt_or_le 0 k with h1 | h1
    · have := hl h1
      omega
    · obtain rfl : k = 0 := by omega
      rw [Int.add_zero]
      exact Int.le_refl _
  refine ⟨?_, hle, hl⟩
  unfold ageV
  rw [h, h', Bool.and_self, if_pos rfl, if_neg (by omega), if_neg (by omega), show y + k - y - 0 = k by omega]
theorem age_early {y m d y' m' d' : Int} (h : DM.valid y m d = true) (h' : DM.valid y' m' d' = true) (hl : DM.day y' m' d' < DM.day y m d) : ageV y m d y' m' d' = .tuple #[.int .i64 0, .int .i64 2] := by
  unfold ageV
  rw [h, h', Bool.and_self, if_pos rfl, if_pos hl]
theorem age_none (y m d : Int) : ageV y m d 0 0 0 = .tuple #[.int .i64 0, .int .i64 4] := by
  unfold ageV
  rw [show DM.valid 0 0 0 = false by rfl, Bool.and_false]
  rfl
theorem age_before {y m d k y' m' d' : Int} (h : DM.valid y m d = true) (ha : DM.valid (y + k) m d = true) (h' : DM.valid y' m' d' = true) (hk : 1 ≤ k) (he : DM.day y' m' d' = DM.day (y + k) m d - 1) : ageV y m d y' m' d' = .tuple #[.int .i64 (k - 1), .int .i64 0] := by
  obtain ⟨h1, h2⟩ := DM.day_before h ha h' hk he
  unfold ageV
  rw [h, h', Bool.and_self, if_pos rfl, if_neg (by omega), h2]

set_option maxHeartbeats 4000000 in
set_option maxRecDepth 100000 in
theorem DateAges_walk (A : Option Addr) (n c : Nat) (u : Int) (w : World) (hE : DEnv w) (hI : IntsArg w A n c) (hu0 : 0 ≤ u) (hu1 : u ≤ 255) :
    Calls Tryd.prog 7 #[.slice A n c, .int .u8 u] w fun e w' => e = .returned (.bool true) ∧ Below w.heap.size w w' := by
  have HE := Lib.hid hE
  have HI := Lib.hid hI
  have hk0 : 0 ≤ u % 100 := by omega
  have hk1 : u % 100 < 100 := by omega
  clear hE hI
  go_enter Tryd.func7, Tryd.ntmps7
  go_wp2_with fail
  refine (awake3_any w HE.out).mono ?_
  rintro e w1 ⟨rfl, b1⟩
  go_wp2_with fail
  refine (Few_any A n c w1 (Nat.le_trans HI.out.1 HI.out.2.1)).mono ?_
  rintro e w1' ⟨rfl, rfl⟩
  have hE1 := Lib.hid (HE.out.below b1)
  by_cases hn : n ≤ 400
  · have hd : decide (n ≤ 400) = true := by simp [hn]
    rw [hd]
    clear hd
    go_wp2_with fail
    refine (New_any A n c w1 (HI.out.below b1)).mono ?_
    rintro e w2 ⟨rfl, hd2, b2⟩
    have hgw : w.heap.size ≤ w1.heap.size := b1.size
    have B2 := Lib.hid (below_then b1 b2)
    clear b1 b2
    generalize hg : w1.heap.size = g at *
    clear hg
    go_wp2_with fail
    refine (Date_any g w2 hd2).mono ?_
    rintro e w3 ⟨y, m, d, rfl, ⟨⟨y1, y2⟩, ⟨m1, m2⟩, d1, d2⟩, hd3, g3⟩
    have B3 := Lib.hid (dealt_below B2.out g3 hgw)
    clear g3
    have P := Lib.hid (dateAt_new w3 y m d rfl)
    have B4 := Lib.hid (below_then B3.out (below_new w3 (.cells #[.int .i64 y, .int .i64 m, .int .i64 d] 24)))
    unfold dateV
    have HST := Lib.hid (show D2 w3.heap.size (w3.heap.size + 1) y m d (y + u % 100) m d w ((w3.alloc (.cells #[.int .i64 y, .int .i64 m, .int .i64 d] 24)).alloc (.cells #[.int .i64 (y + u % 100), .int .i64 m, .int .i64 d] 24)) from
      ⟨P.out.alloc _, dateAt_new _ (y + u % 100) m d (by simp), below_then B4.out (below_new _ _)⟩)
    clear P B4 B3 B2 hd3 hd2
    have C1 := Lib.hid (fun W hW => Valid_any y m d W hW)
    have C2 := Lib.hid (fun W hW => Valid_any (y + u % 100) m d W hW)
    cases hv : DM.valid y m d
    · rw [hv] at C1
      unfold dateV at C1
      clear hv
      go_wp2_with fail
      refine (C1.out _ (HE.out.below HST.out.bel)).mono ?_
      rintro e w4 ⟨rfl, bk⟩
      have HST := Lib.hid (HST.out.below bk)
      go_wp2
      go_ret
      exact ⟨rfl, HST.out.bel⟩
    · rw [hv] at C1
      cases hv2 : DM.valid (y + u % 100) m d
      · rw [hv2] at C2
        unfold dateV at C1 C2
        clear hv hv2
        go_wp2_with fail
        refine (C1.out _ (HE.out.below HST.out.bel)).mono ?_
        rintro e w4 ⟨rfl, bk⟩
        have HST := Lib.hid (HST.out.below bk)
        clear bk
        obtain ⟨p0, p1, p2, q0, q1, q2⟩ := HST.out.cells
        go_wp2_with fail
        refine (C2.out _ (HE.out.below HST.out.bel)).mono ?_
        rintro e w5 ⟨rfl, bk⟩
        have HST := Lib.hid (HST.out.below bk)
        go_wp2
        go_ret
        exact ⟨rfl, HST.out.bel⟩
      · rw [hv2] at C2
        have HV := Lib.hid hv
        have HV2 := Lib.hid hv2
        have C3 := Lib.hid (fun W hW => Age_any y m d (y + u % 100) m d W hW)
        have C4 := Lib.hid (fun W hW => Day_any (y + u % 100) m d W hW)
        have C5 := Lib.hid (fun y' m' d' W hW => Age_any y m d y' m' d' W hW)
        obtain ⟨hage, hle, hlt⟩ := age_full hv hv2 hk0
        rw [hage] at C3
        rw [show dayV (y + u % 100) m d = .tuple #[.int .i64 (DM.day (y + u % 100) m d), .int .i64 0] by unfold dayV; rw [hv2]; rfl] at C4
        have hr := DM.day_range hv2
        have hr0 := DM.day_range hv
        clear hage hv hv2
        have HB := Lib.hid (fun y' m' d' h' (hk : 1 ≤ u % 100) he => age_before (y' := y') (m' := m') (d' := d') HV.out HV2.out h' hk he)
        have HA := Lib.hid (fun y' m' d' h' hl => age_early (y' := y') (m' := m') (d' := d') HV.out h' hl)
        have HS := Lib.hid (show u % 100 = 0 → DM.day (y + u % 100) m d = DM.day y m d by intro h; rw [h, Int.add_zero])
        generalize DM.day (y + u % 100) m d = D' at *
        generalize DM.day y m d = D at *
        obtain ⟨hr1, hr2⟩ := hr
        unfold dateV at C1 C2 C3 C4 C5
        go_wp2_with fail
        refine (C1.out _ (HE.out.below HST.out.bel)).mono ?_
        rintro e w4 ⟨rfl, bk⟩
        have HST := Lib.hid (HST.out.below bk)
        clear bk
        obtain ⟨p0, p1, p2, q0, q1, q2⟩ := HST.out.cells
        go_wp2_with fail
        refine (C2.out _ (HE.out.below HST.out.bel)).mono ?_
        rintro e w5 ⟨rfl, bk⟩
        clear p0 p1 p2 q0 q1 q2
        have HST := Lib.hid (HST.out.below bk)
        clear bk
        obtain ⟨p0, p1, p2, q0, q1, q2⟩ := HST.out.cells
        go_wp2_with fail
        refine (C3.out _ (HE.out.below HST.out.bel)).mono ?_
        rintro e w6 ⟨rfl, bk⟩
        clear p0 p1 p2 q0 q1 q2
        have HST := Lib.hid (HST.out.below bk)
        clear bk
        obtain ⟨p0, p1, p2, q0, q1, q2⟩ := HST.out.cells
        go_wp2_with fail
        refine (C4.out _ (HE.out.below HST.out.bel)).mono ?_
        rintro e w7 ⟨rfl, bk⟩
        clear p0 p1 p2 q0 q1 q2
        have HST := Lib.hid (HST.out.below bk)
        clear bk
        go_wp2_with fail
        refine (FromDay_any (D' - 1) w7 (HE.out.below HST.out.bel) (by omega) (by omega)).mono ?_
        rintro e w8 ⟨v, rfl, hv, bk⟩
        have HST := Lib.hid (HST.out.below bk)
        clear bk
        by_cases hD : D' = 0
        · obtain rfl := from_out hv (.inl (by omega))
          clear hv
          have hu : u % 100 = 0 := by
            rcases Int.lt_or_le 0 (u % 100) with h1 | h1
            · have := hlt (by omega)
              omega
            · omega
          have C6 := Lib.hid (C5.out 0 0 0)
          rw [age_none] at C6
          clear hle hlt HB HA HS
          have Q := Lib.hid (dateAt_new w8 0 0 0 rfl)
          have HST := Lib.hid (HST.out.alloc (.cells #[.int .i64 0, .int .i64 0, .int .i64 0] 24))
          unfold dateV
          obtain ⟨p0, p1, p2, q0, q1, q2⟩ := HST.out.cells
          go_wp2_with fail
          refine (C6.out _ (HE.out.below HST.out.bel)).mono ?_
          rintro e w9 ⟨rfl, bk⟩
          have HST := Lib.hid (HST.out.below bk)
          go_wp2
          go_ret
          exact ⟨rfl, HST.out.bel⟩
        · obtain ⟨y', m', d', hva', hda', rfl⟩ := from_in hv (by omega) (by omega)
          clear hv
          have Q := Lib.hid (dateAt_new w8 y' m' d' rfl)
          have HST := Lib.hid (HST.out.alloc (.cells #[.int .i64 y', .int .i64 m', .int .i64 d'] 24))
          have C6 := Lib.hid (C5.out y' m' d')
          by_cases hu : u % 100 = 0
          · have hag := HA.out y' m' d' hva' (by have := HS.out hu; omega)
            rw [hag] at C6
            clear hle hlt HB HA HS hag
            unfold dateV
            obtain ⟨p0, p1, p2, q0, q1, q2⟩ := HST.out.cells
            go_wp2_with fail
            refine (C6.out _ (HE.out.below HST.out.bel)).mono ?_
            rintro e w9 ⟨rfl, bk⟩
            have HST := Lib.hid (HST.out.below bk)
            go_wp2
            go_ret
            exact ⟨rfl, HST.out.bel⟩
          · have hag := HB.out y' m' d' hva' (by omega) (by omega)
            rw [hag] at C6
            have t1 : (u % 100 == 0) = false := by simp; omega
            clear hle hlt HB HA HS hag
            unfold dateV
            obtain ⟨p0, p1, p2, q0, q1, q2⟩ := HST.out.cells
            go_wp2_with fail
            refine (C6.out _ (HE.out.below HST.out.bel)).mono ?_
            rintro e w9 ⟨rfl, bk⟩
            have HST := Lib.hid (HST.out.below bk)
            go_wp2
            go_ret
            exact ⟨rfl, HST.out.bel⟩
  · have hd : decide (n ≤ 400) = false := by simp; omega
    rw [hd]
    clear hd
    go_wp2_with fail
    refine (awake3_any w1 hE1.out).mono ?_
    rintro e w2 ⟨rfl, b2⟩
    go_wp2
    go_ret
    exact ⟨rfl, b1.trans (b2.mono b1.size)⟩
end Go.Proofs.YtlgnppfompeghaaDoor
