/- The walk of the reference's FromDay: two loops, one in the other. -/
import Derived.Test.YtlgnppfompeghaaDoorDateFrom
namespace Go.Proofs.YtlgnppfompeghaaDoor
open Go.RowKit
set_option linter.unusedVariables false

theorem from_some {n y m d : Int} (hv : DM.valid y m d = true) (hd : DM.day y m d = n) : FromIs n (.tuple #[dateV y m d, .int .i64 0]) := by
  have := DM.day_range hv
  unfold FromIs
  rw [if_pos (by omega)]
  exact ⟨y, m, d, hv, hd, rfl⟩
theorem from_none {n : Int} (h : n < 0 ∨ 146097 ≤ n) : FromIs n (.tuple #[dateV 0 0 0, .int .i64 2]) := by
  unfold FromIs
  rw [if_neg (by omega)]

set_option maxHeartbeats 2000000 in
theorem rFromDay_any (n : Int) (w : World) (hn1 : -9223372036854775808 ≤ n) (hn2 : n ≤ 9223372036854775807) :
    Calls Tryd.prog 33 #[.int .i64 n] w fun e w' => ∃ v, e = .returned v ∧ FromIs n v ∧ Below w.heap.size w w' := by
  have b1 := Lib.hid (below_new w (.cells #[.int .i64 0, .int .i64 0, .int .i64 0] 24))
  by_cases h0 : n < 0
  · have HF := Lib.hid (from_none (.inl h0))
    go_enter Tryd.func33, Tryd.ntmps33
    go_wp2
    exact bodyPost_ret (v := .tuple #[dateV 0 0 0, .int .i64 2]) (by simp [results, Tryd.results33, dateV, go_sem]) rfl ⟨_, rfl, HF.out, b1.out⟩
  · go_enter Tryd.func33, Tryd.ntmps33
    go_wp2
    go_loop [0, 4] (fun o i => ∃ (r y : Int), o = .int .i64 r ∧ i = .int .i64 y ∧ (1800 ≤ y ∧ y ≤ 2200) ∧ (0 ≤ r ∧ r ≤ n) ∧ r + DM.before y = n) (fun _ i => (2200 - intOf i).toNat)
    case atStart => exact ⟨n, 1800, rfl, rfl, ⟨by omega, by omega⟩, ⟨by omega, by omega⟩, by rw [DM.before_first]; omega⟩
    case round =>
      obtain ⟨r, y, rfl, rfl, ⟨hy1, hy2⟩, ⟨hr1, hr2⟩, hr⟩ := hrel
      have HR := Lib.hid hr
      clear hr
      by_cases hy : y ≤ 2199
      · go_wp2
        go_loop [0, 5] (fun o i => ∃ (r m : Int), o = .int .i64 r ∧ i = .int .i64 m ∧ (1 ≤ m ∧ m ≤ 13) ∧ (0 ≤ r ∧ r ≤ n) ∧ r + DM.cum y (m - 1).toNat + DM.before y = n) (fun _ i => (13 - intOf i).toNat)
        case atStart => exact ⟨r, 1, rfl, rfl, ⟨by omega, by omega⟩, ⟨by omega, by omega⟩, DM.year_begins HR.out⟩
        case round =>
          obtain ⟨r, m, rfl, rfl, ⟨hm1, hm2⟩, ⟨hr1, hr2⟩, hr⟩ := hrel
          have HR2 := Lib.hid hr
          clear hr
          by_cases hm : m ≤ 12
          · have hl := DM.len_pos y m
            have HLm := Lib.hid (fun W => rlength_any y m W (by omega) (by omega))
            have HMm := Lib.hid (fun h => DM.made (y := y) ⟨hy1, hy⟩ ⟨hm1, hm⟩ ⟨hr1, h⟩ HR2.out)
            have HNm := Lib.hid (DM.next_month hm1 HR2.out)
            generalize DM.len y m = L at *
            obtain ⟨hl1, hl2⟩ := hl
            by_cases hlt : r < L
            · obtain ⟨hv, hd⟩ := HMm.out hlt
              have HF := Lib.hid (from_some hv hd)
              clear hv hd
              go_wp2_with fail
              refine (HLm.out _).mono ?_
              rintro e w3 ⟨rfl, rfl⟩
              go_wp2
              exact bodyPost_ret (v := .tuple #[dateV y m (r + 1), .int .i64 0]) (by simp [results, Tryd.results33, dateV, go_sem]) rfl ⟨_, rfl, HF.out, below_new w _⟩
            · go_wp2_with fail
              refine (HLm.out _).mono ?_
              rintro e w3 ⟨rfl, rfl⟩
              go_wp2_with fail
              refine (HLm.out _).mono ?_
              rintro e w3 ⟨rfl, rfl⟩
              go_wp2
              exact ⟨⟨r - L, m + 1, by go_num, rfl, ⟨by omega, by omega⟩, ⟨by omega, by omega⟩, HNm.out⟩, by simp [intOf]; omega⟩
          · obtain rfl : m = 13 := by omega
            go_wp2
            exact ⟨⟨r, y + 1, rfl, by go_num, ⟨by omega, by omega⟩, ⟨by omega, by omega⟩, DM.next_year HR2.out⟩, by simp [intOf]; omega⟩
      · obtain rfl : y = 2200 := by omega
        have HF := Lib.hid (from_none (n := n) (.inr (by have := HR.out; rw [DM.before_last] at this; omega)))
        go_wp2
        exact bodyPost_ret (v := .tuple #[dateV 0 0 0, .int .i64 2]) (by simp [results, Tryd.results33, dateV, go_sem]) rfl ⟨_, rfl, HF.out, below_new w _⟩
end Go.Proofs.YtlgnppfompeghaaDoor
