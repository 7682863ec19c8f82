/- Walks of yearOf, FromDay and the reference's FromDay. -/
import Derived.Test.YtlgnppfompeghaaDoorDateDay
namespace Go.Proofs.YtlgnppfompeghaaDoor
open Go.RowKit
set_option linter.unusedVariables false

/-- The year's test. -/
def past (n : Int) (i : Nat) : Bool := decide (n < DM.before (1800 + (i : Int) + 1))

theorem DateAt.set1 {b : Nat} {w : World} {y m d : Int} (h : DateAt b w y m d) (v : Int) : DateAt b (w.setCell ⟨b, 1, none⟩ (.int .i64 v)) y v d := by
  have := cells_set h 1 (.int .i64 v)
  simpa [DateAt] using this
theorem DateAt.set2 {b : Nat} {w : World} {y m d : Int} (h : DateAt b w y m d) (v : Int) : DateAt b (w.setCell ⟨b, 2, none⟩ (.int .i64 v)) y m v := by
  have := cells_set h 2 (.int .i64 v)
  simpa [DateAt] using this
theorem DateAt.other {b c : Nat} {w : World} {y m d : Int} (h : DateAt b w y m d) (hne : b ≠ c) (o : Nat) (u : Value) : DateAt b (w.setCell ⟨c, o, none⟩ u) y m d :=
  (Below.heap_setCell w ⟨c, o, none⟩ u b hne).trans h
theorem DEnv.set {w0 w : World} (h0 : DEnv w0) (hb : Below w0.heap.size w0 w) (b o : Nat) (u : Value) (hB : w0.heap.size ≤ b) : DEnv (w.setCell ⟨b, o, none⟩ u) := h0.below (hb.setCell hB u)

theorem below_grow {B : Nat} {w : World} (hB : B ≤ w.heap.size) (k : Nat) (os : Array Obj) : Below B w (Sort.grow (w.drewN k) os) := below_grown_sl B w k os hB

set_option maxHeartbeats 1000000 in
theorem closure_any (n : Int) (b i : Nat) (w : World) (h0 : 0 ≤ n) (h1 : n < 146097) (hi : i < 399) (hc : w.cell? ⟨b, 0, none⟩ = some (.int .i64 n)) :
    Calls Tryd.prog 50 #[.int .i64 i, .pointer (some ⟨b, 0, none⟩)] w fun e w' => e = .returned (.bool (past n i)) ∧ ∃ q os, w' = Sort.grow (w.drewN q) os := by
  have HB := Lib.hid (fun W => before_any (1800 + (i : Int) + 1) W (by omega) (by omega))
  have hb := before_le (y := 1800 + (i : Int) + 1) (by omega) (by omega)
  unfold past
  generalize DM.before (1800 + (i : Int) + 1) = B at *
  obtain ⟨hb1, hb2⟩ := hb
  go_enter Tryd.func50, Tryd.ntmps50
  go_wp2
  go_quiet ((go_at_call 36; exact quiet_left (HB.out _)))
  go_wp2
  go_ret
  exact ⟨rfl, nq, #[], by rw [Sort.grow_empty]⟩

theorem count_years (n : Int) (h0 : 0 ≤ n) (h1 : n < 146097) : ∃ c : Nat, c ≤ 399 ∧ (List.range 399).countP (fun i => !past n i) = c ∧ DM.before (1800 + (c : Int)) ≤ n ∧ n < DM.before (1800 + (c : Int) + 1) := by
  obtain ⟨c, hc, hl, hr⟩ := DM.edge (past n) 399 (DM.year_mono n)
  refine ⟨c, hc, ?_, DM.year_of h0 h1 hc hl hr⟩
  have hg : ∀ t, t < 399 → (List.range 399)[t]! = t := fun t ht => by rw [getElem!_pos _ t (by simpa using ht)]; simp
  refine Lib.countP_boundary _ (List.range 399) c (by simpa using hc) (fun t ht => ?_) (fun t h3 h4 => ?_)
  · rw [hg t (by omega), hl t ht]; rfl
  · rw [hg t (by simpa using h4), hr t h3 (by simpa using h4)]; rfl

set_option maxHeartbeats 1000000 in
theorem yearOf_any (n : Int) (w : World) (h0 : 0 ≤ n) (h1 : n < 146097) :
    Calls Tryd.prog 43 #[.int .i64 n] w fun e w' => ∃ y : Int, e = .returned (.int .i64 y) ∧ (1800 ≤ y ∧ y ≤ 2199) ∧ DM.before y ≤ n ∧ n < DM.before (y + 1) ∧ Below w.heap.size w w' := by
  have hcell : (w.alloc (.cells #[.int .i64 n] 3)).cell? ⟨w.heap.size, 0, none⟩ = some (.int .i64 n) := by
    rw [cell_of_row _ _ _ _ _ _ (heap_alloc_new w _)]; rfl
  have S := Lib.hid (Tryd.sort_Search 50 #[.pointer (some ⟨w.heap.size, 0, none⟩)] 399 (past n) (w.alloc (.cells #[.int .i64 n] 3))
    (enters_of Tryd.func50 (by kernel_rfl) rfl) (by omega)
    (fun m os i hi => closure_any n w.heap.size i _ h0 h1 hi (cell_grown (World.block_lt_of_cell? _ _ hcell) hcell m os)) (DM.year_mono n))
  clear hcell
  obtain ⟨c, hc, hcount, hl, hr⟩ := count_years n h0 h1
  rw [hcount] at S
  have HY := Lib.hid (show DM.before (1800 + (c : Int)) ≤ n ∧ n < DM.before (1800 + (c : Int) + 1) from ⟨hl, hr⟩)
  clear hl hr hcount
  have b1 := Lib.hid (below_new w (.cells #[.int .i64 n] 3))
  go_enter Tryd.func43, Tryd.ntmps43
  go_wp2_with fail
  refine S.out.mono ?_
  rintro e w1 ⟨rfl, q, os, rfl⟩
  go_wp2
  go_ret
  exact ⟨_, rfl, ⟨by omega, by omega⟩, HY.out.1, HY.out.2, below_then b1.out (below_grow (Nat.le_refl _) q os)⟩

/-- What FromDay returns: the date with this number, or none. -/
def FromIs (n : Int) (v : Value) : Prop :=
  if 0 ≤ n ∧ n < 146097 then ∃ y m d, DM.valid y m d = true ∧ DM.day y m d = n ∧ v = .tuple #[dateV y m d, .int .i64 0] else v = .tuple #[dateV 0 0 0, .int .i64 2]

set_option maxHeartbeats 2000000 in
theorem FromDay_any (n : Int) (w : World) (hE : DEnv w) (hn1 : -9223372036854775808 ≤ n) (hn2 : n ≤ 9223372036854775807) :
    Calls Tryd.prog 32 #[.int .i64 n] w fun e w' => ∃ v, e = .returned v ∧ FromIs n v ∧ Below w.heap.size w w' := by
  have HE := Lib.hid hE
  clear hE
  have HB := Lib.hid (fun W => before_any 2200 W (by omega) (by omega))
  rw [DM.before_last] at HB
  have b1 := Lib.hid (below_new w (.cells #[.int .i64 0, .int .i64 0, .int .i64 0] 24))
  by_cases hin : 0 ≤ n ∧ n < 146097
  · have HF := Lib.hid (fun v => show FromIs n v ↔ ∃ y m d, DM.valid y m d = true ∧ DM.day y m d = n ∧ v = .tuple #[dateV y m d, .int .i64 0] by unfold FromIs; rw [if_pos hin])
    obtain ⟨h0, h1⟩ := hin
    have HY := Lib.hid (fun W => yearOf_any n W h0 h1)
    go_enter Tryd.func32, Tryd.ntmps32
    go_wp2_with fail
    refine (HB.out _).mono ?_
    rintro e w1 ⟨rfl, rfl⟩
    go_wp2_with fail
    refine (HY.out _).mono ?_
    rintro e w1 ⟨y, rfl, ⟨hy1, hy2⟩, hl, hr, b2⟩
    have hP : w.heap.size < w1.heap.size := Nat.lt_of_lt_of_le (by simp) b2.size
    have b3 := Lib.hid (below_then b1.out b2)
    have hd0 := Lib.hid (((dateAt_new w 0 0 0 rfl).below b2 (Nat.le_refl _)).alloc (.cells #[.int .i64 y, .int .i64 1, .int .i64 0] 24))
    have hd1 := Lib.hid (dateAt_new w1 y 1 0 rfl)
    have b4 := Lib.hid (below_then b3.out (below_new w1 (.cells #[.int .i64 y, .int .i64 1, .int .i64 0] 24)))
    clear b2
    have HBy := Lib.hid (fun W => before_any y W hy1 (by omega))
    have hb := before_le hy1 (by omega : y ≤ 2200)
    have HM := Lib.hid (fun m r (h1 : 1 ≤ m ∧ m ≤ 12) (h2 : 0 ≤ r ∧ r < DM.len y m) (h3 : r + DM.cum y (m - 1).toNat + DM.before y = n) => DM.made (y := y) ⟨hy1, hy2⟩ h1 h2 h3)
    have HT := Lib.hid (fun m r (h1 : 1 ≤ m ∧ m ≤ 12) (h2 : DM.len y m ≤ r) (h3 : r + DM.cum y (m - 1).toNat + DM.before y = n) => DM.twelve h1 hr h2 h3)
    have HN := Lib.hid (fun m r (h1 : 1 ≤ m) (h3 : r + DM.cum y (m - 1).toNat + DM.before y = n) => DM.next_month h1 h3)
    have HS := Lib.hid (fun r (h3 : r + DM.before y = n) => DM.year_begins h3)
    have HL := Lib.hid (fun W hW i h1 h2 => length_any y i W hW (by omega) (by omega) h1 h2)
    have HLp := Lib.hid (fun i => DM.len_pos y i)
    clear hr
    obtain ⟨hb1, hb2⟩ := hb
    generalize hBy : DM.before y = B at *
    clear hBy
    go_wp2_with fail
    refine (HBy.out _).mono ?_
    rintro e w2 ⟨rfl, rfl⟩
    generalize w1.alloc (.cells #[.int .i64 y, .int .i64 1, .int .i64 0] 24) = w2 at *
    generalize hQ : w1.heap.size = Q at *
    clear hQ
    obtain ⟨c0, c1, c2, f0, f1, f2⟩ := hd1.out.parts
    go_wp2
    go_loopw [5] (fun o wr => ∃ (m r : Int), o = .int .i64 r ∧ (1 ≤ m ∧ m ≤ 12) ∧ (0 ≤ r ∧ r ≤ 146097) ∧ DateAt Q wr y m 0 ∧ DateAt w.heap.size wr 0 0 0 ∧ Below w.heap.size w wr ∧ r + DM.cum y (m - 1).toNat + B = n) (fun o _ => (intOf o).toNat)
    case atStart => exact ⟨1, n - B, by go_num, ⟨by omega, by omega⟩, ⟨by omega, by omega⟩, hd1.out, hd0.out, b4.out, HS.out _ (by omega)⟩
    case round =>
      obtain ⟨m, r, rfl, ⟨hm1, hm2⟩, ⟨hr1, hr2⟩, k1, k0, kb, hr⟩ := hrel
      have K1 := Lib.hid k1
      have K0 := Lib.hid k0
      have KB := Lib.hid kb
      have HR := Lib.hid hr
      clear k1 k0 kb hr c0 c1 c2 f0 f1 f2
      obtain ⟨c0, c1, c2, f0, f1, f2⟩ := K1.out.parts
      obtain ⟨r0, r1, r2, g0, g1, g2⟩ := K0.out.parts
      have hl := HLp.out m
      have HLm := Lib.hid (fun W hW => HL.out W hW m hm1 hm2)
      have hEr := Lib.hid (HE.out.below KB.out)
      by_cases hge : DM.len y m ≤ r
      · have h11 : m ≤ 11 := HT.out m r ⟨hm1, hm2⟩ hge HR.out
        have HNx := Lib.hid (HN.out m r hm1 HR.out)
        generalize DM.len y m = L at *
        obtain ⟨hl1, hl2⟩ := hl
        go_wp2_with fail
        refine (HLm.out _ hEr.out).mono ?_
        rintro e w3 ⟨rfl, rfl⟩
        go_wp2_with fail
        refine (HLm.out _ hEr.out).mono ?_
        rintro e w3 ⟨rfl, rfl⟩
        go_wp2
        exact ⟨⟨m + 1, r - L, by go_num, ⟨by omega, by omega⟩, ⟨by omega, by omega⟩, K1.out.set1 (m + 1), K0.out.other (by omega) _ _, KB.out.setCell (Nat.le_of_lt hP) _, HNx.out⟩, by simp [intOf]; omega⟩
      · have HMm := Lib.hid (HM.out m r ⟨hm1, hm2⟩ ⟨hr1, by omega⟩ HR.out)
        generalize DM.len y m = L at *
        obtain ⟨hl1, hl2⟩ := hl
        have hr31 : r ≤ 31 := by omega
        go_wp2_with fail
        refine (HLm.out _ hEr.out).mono ?_
        rintro e w3 ⟨rfl, rfl⟩
        go_wp2
        exact bodyPost_ret (v := .tuple #[dateV y m (r + 1), .int .i64 0]) (by simp [results, Tryd.results32, dateV, go_sem, r0, r1, r2]) rfl ⟨_, rfl, (HF.out _).2 ⟨y, m, r + 1, HMm.out.1, HMm.out.2, rfl⟩, below_set3 (KB.out.setCell (Nat.le_of_lt hP) _) (Nat.le_refl _) _ _ _⟩
  · have HF := Lib.hid (fun v => show FromIs n v ↔ v = .tuple #[dateV 0 0 0, .int .i64 2] by unfold FromIs; rw [if_neg hin])
    by_cases h0 : n < 0
    · clear hin
      go_enter Tryd.func32, Tryd.ntmps32
      go_wp2
      exact bodyPost_ret (v := .tuple #[dateV 0 0 0, .int .i64 2]) (by simp [results, Tryd.results32, dateV, go_sem]) rfl ⟨_, rfl, (HF.out _).2 rfl, b1.out⟩
    · have h1 : 146097 ≤ n := by omega
      clear hin
      go_enter Tryd.func32, Tryd.ntmps32
      go_wp2_with fail
      refine (HB.out _).mono ?_
      rintro e w1 ⟨rfl, rfl⟩
      go_wp2
      exact bodyPost_ret (v := .tuple #[dateV 0 0 0, .int .i64 2]) (by simp [results, Tryd.results32, dateV, go_sem]) rfl ⟨_, rfl, (HF.out _).2 rfl, b1.out⟩
end Go.Proofs.YtlgnppfompeghaaDoor
