/- Walks of Day, yearOf, FromDay and the reference's. -/
import Derived.Test.YtlgnppfompeghaaDoorDateNum
import Derived.Test.YtlgnppfompeghaaDoorDShelf
namespace Go.Proofs.YtlgnppfompeghaaDoor
open Go.RowKit

/-- What Day returns. -/
def dayV (y m d : Int) : Value := if DM.valid y m d = true then .tuple #[.int .i64 (DM.day y m d), .int .i64 0] else .tuple #[.int .i64 0, .int .i64 4]

theorem cum_le (y : Int) (k : Nat) (h : k ≤ 12) : DM.cum y k ≤ 366 := by
  have h1 := DM.cum_mono y h
  have h2 := DM.cum_year y
  split at h2 <;> omega
theorem before_le {y : Int} (h : 1800 ≤ y) (h2 : y ≤ 2200) : 0 ≤ DM.before y ∧ DM.before y ≤ 146097 := by
  have h1 := DM.before_mono h
  have h3 := DM.before_mono h2
  rw [DM.before_first] at h1
  rw [DM.before_last] at h3
  exact ⟨h1, h3⟩

set_option maxHeartbeats 1000000 in
theorem Day_any (y m d : Int) (w : World) (hE : DEnv w) :
    Calls Tryd.prog 18 #[dateV y m d] w fun e w' => e = .returned (dayV y m d) ∧ Below w.heap.size w w' := by
  have HE := Lib.hid hE
  clear hE
  have C := Lib.hid (fun W hW => Valid_any y m d W hW)
  unfold dateV at *
  have hE1 := Lib.hid (HE.out.below (below_new w (.cells #[.int .i64 y, .int .i64 m, .int .i64 d] 24)))
  cases hv : DM.valid y m d
  · have F := Lib.hid (show dayV y m d = .tuple #[.int .i64 0, .int .i64 4] by unfold dayV; rw [hv]; rfl)
    rw [hv] at C
    clear hv
    go_enter Tryd.func18, Tryd.ntmps18
    go_wp2_with fail
    refine (C.out _ hE1.out).mono ?_
    rintro e w1 ⟨rfl, b1⟩
    have b2 := Lib.hid (below_then (below_new w _) b1)
    clear b1
    go_wp2
    go_ret2
    exact ⟨congrArg Ending.returned F.out.symm, b2.out⟩
  · have F := Lib.hid (show dayV y m d = .tuple #[.int .i64 (DM.before y + DM.cum y (m - 1).toNat + d - 1), .int .i64 0] by unfold dayV; rw [hv]; rfl)
    rw [hv] at C
    obtain ⟨hy, hm, hd⟩ := DM.valid_iff.1 hv
    have hl := DM.len_pos y m
    have hd2 : d ≤ 31 := by omega
    have hb := before_le hy.1 (by omega)
    have HB := Lib.hid (fun W => before_any y W hy.1 (by omega))
    have HC := Lib.hid (fun k hk => cum_le y k hk)
    have HP := Lib.hid (fun k => DM.cum_pos y k)
    have HL := Lib.hid (fun W hW i h1 h2 => length_any y i W hW (by omega) (by omega) h1 h2)
    have HA := Lib.hid (fun i h => DM.cum_at y i h)
    clear hv hl
    obtain ⟨hy1, hy2⟩ := hy
    obtain ⟨hm1, hm2⟩ := hm
    obtain ⟨hd1, hd3⟩ := hd
    clear hd3
    go_enter Tryd.func18, Tryd.ntmps18
    go_wp2_with fail
    refine (C.out _ hE1.out).mono ?_
    rintro e w1 ⟨rfl, b1⟩
    obtain ⟨q0, q1, q2, q3, q4, q5⟩ := ((dateAt_new w y m d rfl).below b1 (Nat.le_refl _)).parts
    have hE2 := Lib.hid (hE1.out.below b1)
    have b2 := Lib.hid (below_then (below_new w _) b1)
    clear b1
    generalize DM.before y = B at *
    obtain ⟨hb1, hb2⟩ := hb
    go_wp2
    go_quiet ((go_at_call 36; exact quiet_left (HB.out _)))
    have hE3 := Lib.hid (show DEnv (w1.drewN nq) from hE2.out.below (below_drewN (Below.refl _ _) _))
    have b3 := Lib.hid (below_drewN b2.out nq)
    go_wp2
    go_loop [4, 5] (fun o i => ∃ (k c : Int), (1 ≤ k ∧ k ≤ m) ∧ i = .int .i64 k ∧ o = .int .i64 (B + d - 1 + c) ∧ c = DM.cum y (k - 1).toNat) (fun _ i => (12 - intOf i).toNat)
    case atStart => exact ⟨1, 0, ⟨by omega, hm1⟩, rfl, by go_num, rfl⟩
    case round =>
      obtain ⟨k, c, ⟨hk1, hk2⟩, rfl, rfl, hc⟩ := hrel
      have hc1 : 0 ≤ c ∧ c ≤ 366 := by rw [hc]; exact ⟨HP.out _, HC.out _ (by omega)⟩
      obtain ⟨hc1, hc2⟩ := hc1
      have HCc := Lib.hid hc
      clear hc
      by_cases hlt : k < m
      · have hl := DM.len_pos y k
        have HLk := Lib.hid (fun W hW => HL.out W hW k hk1 (by omega))
        have HAk := Lib.hid (HA.out k hk1)
        generalize DM.len y k = L at *
        obtain ⟨hl1, hl2⟩ := hl
        go_wp2_with fail
        refine (HLk.out _ hE3.out).mono ?_
        rintro e w2 ⟨rfl, rfl⟩
        go_wp2
        exact ⟨⟨k + 1, c + L, ⟨by omega, by omega⟩, rfl, by go_num, by rw [show k + 1 - 1 = k by omega, HAk.out, HCc.out]⟩, by simp [intOf]; omega⟩
      · obtain rfl : k = m := by omega
        go_wp2
        go_ret2
        exact ⟨congrArg Ending.returned (by rw [F.out, HCc.out]; simp; omega), b3.out⟩

set_option maxHeartbeats 1000000 in
theorem rDay_any (y m d : Int) (w : World) :
    Calls Tryd.prog 19 #[dateV y m d] w fun e w' => e = .returned (dayV y m d) ∧ Below w.heap.size w w' := by
  have C := Lib.hid (fun W => rValid_any y m d W)
  unfold dateV at *
  cases hv : DM.valid y m d
  · have F := Lib.hid (show dayV y m d = .tuple #[.int .i64 0, .int .i64 4] by unfold dayV; rw [hv]; rfl)
    rw [hv] at C
    clear hv
    go_enter Tryd.func19, Tryd.ntmps19
    go_wp2_with fail
    refine (C.out _).mono ?_
    rintro e w1 ⟨rfl, b1⟩
    have b2 := Lib.hid (below_then (below_new w _) b1)
    clear b1
    go_wp2
    go_ret2
    exact ⟨congrArg Ending.returned F.out.symm, b2.out⟩
  · have F := Lib.hid (show dayV y m d = .tuple #[.int .i64 (DM.before y + DM.cum y (m - 1).toNat + d - 1), .int .i64 0] by unfold dayV; rw [hv]; rfl)
    rw [hv] at C
    obtain ⟨hy, hm, hd⟩ := DM.valid_iff.1 hv
    have hl := DM.len_pos y m
    have hd2 : d ≤ 31 := by omega
    have HC := Lib.hid (fun k hk => cum_le y k hk)
    have HP := Lib.hid (fun k => DM.cum_pos y k)
    have HL := Lib.hid (fun W i => rlength_any y i W (by omega) (by omega))
    have HA := Lib.hid (fun i h => DM.cum_at y i h)
    clear hv hl
    obtain ⟨hy1, hy2⟩ := hy
    obtain ⟨hm1, hm2⟩ := hm
    obtain ⟨hd1, hd3⟩ := hd
    clear hd3
    go_enter Tryd.func19, Tryd.ntmps19
    go_wp2_with fail
    refine (C.out _).mono ?_
    rintro e w1 ⟨rfl, b1⟩
    obtain ⟨q0, q1, q2, q3, q4, q5⟩ := ((dateAt_new w y m d rfl).below b1 (Nat.le_refl _)).parts
    have b2 := Lib.hid (below_then (below_new w _) b1)
    clear b1
    go_wp2
    go_loop [4, 5] (fun o i => ∃ (k c : Int), (1 ≤ k ∧ k ≤ m) ∧ i = .int .i64 k ∧ o = .int .i64 (d - 1 + c) ∧ c = DM.cum y (k - 1).toNat) (fun _ i => (12 - intOf i).toNat)
    case atStart => exact ⟨1, 0, ⟨by omega, hm1⟩, rfl, by go_num, rfl⟩
    case round =>
      obtain ⟨k, c, ⟨hk1, hk2⟩, rfl, rfl, hc⟩ := hrel
      have hc1 : 0 ≤ c ∧ c ≤ 366 := by rw [hc]; exact ⟨HP.out _, HC.out _ (by omega)⟩
      obtain ⟨hc1, hc2⟩ := hc1
      have HCc := Lib.hid hc
      clear hc
      by_cases hlt : k < m
      · have hl := DM.len_pos y k
        have HLk := Lib.hid (fun W => HL.out W k)
        have HAk := Lib.hid (HA.out k hk1)
        generalize DM.len y k = L at *
        obtain ⟨hl1, hl2⟩ := hl
        go_wp2_with fail
        refine (HLk.out _).mono ?_
        rintro e w2 ⟨rfl, rfl⟩
        go_wp2
        exact ⟨⟨k + 1, c + L, ⟨by omega, by omega⟩, rfl, by go_num, by rw [show k + 1 - 1 = k by omega, HAk.out, HCc.out]⟩, by simp [intOf]; omega⟩
      · obtain rfl : k = m := by omega
        rw [← HCc.out] at F
        clear HCc
        go_wp2
        go_loop [4, 6] (fun o i => ∃ (z b : Int), (1800 ≤ z ∧ z ≤ y) ∧ i = .int .i64 z ∧ o = .int .i64 (d - 1 + c + b) ∧ b = DM.before z) (fun _ i => (2199 - intOf i).toNat)
        case atStart => exact ⟨1800, 0, ⟨by omega, hy1⟩, rfl, by go_num, DM.before_first.symm⟩
        case round =>
          obtain ⟨z, b, ⟨hz1, hz2⟩, rfl, rfl, hz⟩ := hrel
          have hb1 : 0 ≤ b ∧ b ≤ 146097 := by rw [hz]; exact before_le hz1 (by omega)
          obtain ⟨hb1, hb2⟩ := hb1
          have HZ := Lib.hid hz
          clear hz
          by_cases hzy : z < y
          · have hl := DM.len_pos z 2
            have HLz := Lib.hid (fun W => rlength_any z 2 W (by omega) (by omega))
            have HN := Lib.hid (show DM.before (z + 1) = DM.before z + 337 + DM.len z 2 by
              rw [DM.before_next]
              unfold DM.len
              rw [if_pos rfl]
              split <;> omega)
            generalize DM.len z 2 = L at *
            obtain ⟨hl1, hl2⟩ := hl
            go_wp2_with fail
            refine (HLz.out _).mono ?_
            rintro e w2 ⟨rfl, rfl⟩
            go_wp2
            exact ⟨⟨z + 1, b + 337 + L, ⟨by omega, by omega⟩, rfl, by go_num, by rw [HN.out, HZ.out]⟩, by simp [intOf]; omega⟩
          · obtain rfl : z = y := by omega
            go_wp2
            go_ret2
            exact ⟨congrArg Ending.returned (by rw [F.out, HZ.out]; simp; omega), b2.out⟩
end Go.Proofs.YtlgnppfompeghaaDoor
