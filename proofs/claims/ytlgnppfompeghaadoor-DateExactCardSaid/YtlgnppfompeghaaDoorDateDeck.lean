/- What statements deal: dates, and dates that are written out; the sanity check of layer 3. -/
import Derived.Test.YtlgnppfompeghaaDoorDateFormat
import Derived.Test.YtlgnppfompeghaaDoorDateParse2
namespace Go.Proofs.YtlgnppfompeghaaDoor
open Go.RowKit
set_option linter.unusedVariables false

theorem tmod_in (x n : Int) (hn : 0 < n) : -n < x.tmod n ∧ x.tmod n < n := ⟨Int.lt_tmod_of_pos x hn, Int.tmod_lt_of_pos x hn⟩
set_option maxHeartbeats 400000 in
theorem Mod_any (x n : Int) (w : World) (h1 : 1 ≤ n) (h2 : n ≤ 1000) :
    Calls Tryd.prog 26 #[.int .i64 x, .int .i64 n] w fun e w' => ∃ r, e = .returned (.int .i64 r) ∧ (0 ≤ r ∧ r < n) ∧ (0 ≤ x → x < n → r = x) ∧ w = w' := by
  have hb := tmod_in x n (by omega)
  have hs := Lib.hid (show 0 ≤ x → x < n → (x.tmod n + n) % n = x by
    intro h3 h4
    rw [Int.tmod_eq_of_lt h3 h4, Int.add_emod_right, Int.emod_eq_of_lt h3 h4])
  obtain ⟨hb1, hb2⟩ := hb
  generalize ht : x.tmod n = t at *
  have hn0 : n ≠ 0 := by omega
  go_enter Tryd.func26, Tryd.ntmps26
  go_wp2
  go_ret
  exact ⟨_, rfl, ⟨Int.emod_nonneg _ (by omega), Int.emod_lt_of_pos _ (by omega)⟩, hs.out, rfl⟩

/-- A date in one of three forms. -/
def yyB (y : Int) : ByteArray := twoB (y / 100).toNat ++ twoB (y % 100).toNat
def writB (form : Int) (y m d : Int) : ByteArray :=
  if form = 0 then yyB y ++ ⟨#[45]⟩ ++ twoB m.toNat ++ ⟨#[45]⟩ ++ twoB d.toNat
  else if form = 1 then twoB d.toNat ++ ⟨#[46]⟩ ++ twoB m.toNat ++ ⟨#[46]⟩ ++ yyB y
  else twoB m.toNat ++ ⟨#[47]⟩ ++ twoB d.toNat ++ ⟨#[47]⟩ ++ yyB y

set_option maxHeartbeats 2000000 in
theorem Written_any (y m d form : Int) (w : World) (hy : 0 ≤ y ∧ y ≤ 9999) (hm : 0 ≤ m ∧ m ≤ 99) (hd : 0 ≤ d ∧ d ≤ 99) (hf : 0 ≤ form ∧ form < 3) :
    Calls Tryd.prog 24 #[dateV y m d, .int .i64 form] w fun e w' => e = .returned (.string (writB form y m d)) ∧ Below w.heap.size w w' := by
  unfold dateV
  obtain ⟨y1, y2⟩ := hy
  obtain ⟨m1, m2⟩ := hm
  obtain ⟨d1, d2⟩ := hd
  obtain ⟨f1, f2⟩ := hf
  have HST := Lib.hid (show DSt w.heap.size y m d w (w.alloc (.cells #[.int .i64 y, .int .i64 m, .int .i64 d] 24)) from ⟨dateAt_new w y m d rfl, below_new w _⟩)
  go_enter Tryd.func24, Tryd.ntmps24
  go_wp2_with fail
  obtain ⟨q0, q1, q2⟩ := HST.out.cells
  generalize w.alloc (.cells #[.int .i64 y, .int .i64 m, .int .i64 d] 24) = w1 at *
  generalize w.heap.size = P at *
  obtain ⟨t1, t2⟩ := parts_of y (by omega) (by omega)
  have sz : ∀ k, (twoB k).size = 2 := fun _ => rfl
  have hst := HST.out.drew
  go_region_held3 (fun w' => w'.cell? ⟨P, 0, none⟩ = some (.int .i64 y) ∧ w'.cell? ⟨P, 1, none⟩ = some (.int .i64 m) ∧ w'.cell? ⟨P, 2, none⟩ = some (.int .i64 d))
    (first | go_keep | exact hst.cells)
    (first
      | (go_at_call 39
         refine (two_any _ _ ?_ ?_).mono ?_
         · omega
         · omega
         rintro e u ⟨rfl, bu⟩
         have hst := hst.below bu))
  rename_i hHeld
  clear hHeld
  have B2 := Lib.hid hst.bel
  clear hst
  go_wp2_with fail
  refine (Mod_any form 3 _ (by omega) (by omega)).mono ?_
  rintro e w2 ⟨r, rfl, ⟨hr0, hr1⟩, hr, rfl⟩
  obtain rfl : r = form := hr f1 f2
  clear hr
  by_cases g0 : r = 0
  · subst g0
    go_wp2
    go_ret
    exact ⟨ret_str (by unfold writB yyB; rw [if_pos rfl]), B2.out⟩
  · by_cases g1 : r = 1
    · subst g1
      go_wp2
      go_ret
      exact ⟨ret_str (by unfold writB yyB; rw [if_neg (by decide), if_pos rfl]), B2.out⟩
    · obtain rfl : r = 2 := by omega
      go_wp2
      go_ret
      exact ⟨ret_str (by unfold writB yyB; rw [if_neg (by decide), if_neg (by decide)]), B2.out⟩

theorem dateAt_keep {b g : Nat} {w w' : World} {y m d : Int} (h : DateAt b w y m d) (hb : w.grownBy w' (some g)) (hne : b ≠ g) : DateAt b w' y m d :=
  (hb.block b h.lt (fun e => hne (by injection e))).trans h

/-- What stays of a deck where blocks behind it are written. -/
theorem deck_fin {g : Nat} {w w5 w' : World} (hd : Deck g w5) (hg : w.grownBy w5 (some g)) (hlt : g < w.heap.size) (hb : Below w.heap.size w5 w') : Deck g w' ∧ w.grownBy w' (some g) :=
  ⟨hd.below hb hlt, grown_below hg hb (Nat.le_refl _)⟩

set_option maxHeartbeats 4000000 in
theorem Date_any (g : Nat) (w : World) (h : Deck g w) :
    Calls Tryd.prog 13 #[.pointer (some ⟨g, 0, none⟩)] w fun e w' => ∃ y m d, e = .returned (dateV y m d) ∧ ((1800 ≤ y ∧ y ≤ 2199) ∧ (0 ≤ m ∧ m ≤ 13) ∧ (1 ≤ d ∧ d ≤ 32)) ∧ Deck g w' ∧ w.grownBy w' (some g) := by
  have HD := Lib.hid h
  have hlt := h.lt
  clear h
  have hd0 := Lib.hid (dateAt_new w 0 0 0 rfl)
  have HA := Lib.hid (HD.out.alloc (.cells #[.int .i64 0, .int .i64 0, .int .i64 0] 24))
  have hgw := Lib.hid (grown_alloc (grown_refl w (some g)) (.cells #[.int .i64 0, .int .i64 0, .int .i64 0] 24))
  have hne : w.heap.size ≠ g := by omega
  go_enter Tryd.func13, Tryd.ntmps13
  go_wp2_with fail
  refine (Next_any g _ HA.out 130 (by omega) (by omega)).mono ?_
  rintro e w1 ⟨a, rfl, ⟨ha0, ha1⟩, hd1, hg1⟩
  go_wp2_with fail
  refine (Next_any g _ hd1 12 (by omega) (by omega)).mono ?_
  rintro e w2 ⟨b, rfl, ⟨hb0, hb1⟩, hd2, hg2⟩
  go_wp2_with fail
  refine (Next_any g _ hd2 28 (by omega) (by omega)).mono ?_
  rintro e w3 ⟨c, rfl, ⟨hc0, hc1⟩, hd3, hg3⟩
  have hg := Lib.hid (grown_trans (grown_trans (grown_trans hgw.out hg1) hg2) hg3)
  have hg0 := Lib.hid (grown_trans (grown_trans hg1 hg2) hg3)
  have r3 := Lib.hid (dateAt_keep (dateAt_keep (dateAt_keep hd0.out hg1 hne) hg2 hne) hg3 hne)
  clear hg1 hg2 hg3 hd1 hd2
  have hp : w.heap.size < w3.heap.size := Nat.lt_of_lt_of_le (by simp) hg0.out.size
  have hpg : w3.heap.size ≠ g := by omega
  go_wp2_with fail
  refine (Next_any g _ (hd3.alloc _) 8 (by omega) (by omega)).mono ?_
  rintro e w4 ⟨x, rfl, ⟨hx0, hx1⟩, hd4, hg4⟩
  have hg4' := Lib.hid (grown_trans (grown_alloc hg.out _) hg4)
  have R4 := Lib.hid (dateAt_keep (r3.out.alloc _) hg4 hne)
  have P4 := Lib.hid (dateAt_keep (dateAt_new w3 (1900 + a) (1 + b) (1 + c) rfl) hg4 hpg)
  have hp4 : w3.heap.size < w4.heap.size := Nat.lt_of_lt_of_le (by simp) hg4.size
  clear hg4 hd3
  generalize hP : w3.heap.size = p at *
  clear hP
  have hwp : w.heap.size ≤ p := by omega
  by_cases x0 : x = 0
  · subst x0
    go_wp2_with fail
    refine (Next_any g _ hd4 2 (by omega) (by omega)).mono ?_
    rintro e w5 ⟨k, rfl, ⟨hk0, hk1⟩, hd5, hg5⟩
    obtain ⟨r0, r1, r2, g0, g1, g2⟩ := (dateAt_keep R4.out hg5 hne).parts
    obtain ⟨p0, p1, p2, q0, q1, q2⟩ := (dateAt_keep P4.out hg5 hpg).parts
    have hg5 := Lib.hid (grown_trans hg4'.out hg5)
    go_wp2
    obtain ⟨f1, f2⟩ := deck_fin hd5 hg5.out hlt (below_set3 (((Below.refl w.heap.size w5).setCell (p := ⟨p, 1, none⟩) hwp (.int .i64 2)).setCell (p := ⟨p, 2, none⟩) hwp (.int .i64 (28 + k))) (Nat.le_refl _) (.int .i64 (1900 + a)) (.int .i64 2) (.int .i64 (28 + k)))
    exact bodyPost_ret (v := dateV (1900 + a) 2 (28 + k)) (by simp [results, Tryd.results13, dateV, go_sem, r0, r1, r2]) rfl ⟨_, _, _, rfl, ⟨by omega, by omega, by omega⟩, f1, f2⟩
  · by_cases x1 : x = 1
    · subst x1
      go_wp2_with fail
      refine (Next_any g _ (hd4.alloc _) 4 (by omega) (by omega)).mono ?_
      rintro e w5 ⟨k, rfl, ⟨hk0, hk1⟩, hd5, hg5⟩
      obtain ⟨j, rfl⟩ := Int.eq_ofNat_of_zero_le hk0
      have hj : j < 4 := by omega
      obtain ⟨v, hv, hv1, hv2⟩ : ∃ v : Int, w5.cell? ⟨w4.heap.size, j, none⟩ = some (.int .i64 v) ∧ 1800 ≤ v ∧ v ≤ 2199 := by
        have hblk := (hg5.block w4.heap.size (by simp) (fun e => by injection e; have := hd4.lt; omega)).trans (heap_alloc_new w4 (.cells #[.int .i64 1800, .int .i64 2199, .int .i64 2000, .int .i64 1900] 3))
        match j, hj with
        | 0, _ => exact ⟨1800, by rw [cell_of_row _ _ _ _ _ _ hblk]; rfl, by omega, by omega⟩
        | 1, _ => exact ⟨2199, by rw [cell_of_row _ _ _ _ _ _ hblk]; rfl, by omega, by omega⟩
        | 2, _ => exact ⟨2000, by rw [cell_of_row _ _ _ _ _ _ hblk]; rfl, by omega, by omega⟩
        | 3, _ => exact ⟨1900, by rw [cell_of_row _ _ _ _ _ _ hblk]; rfl, by omega, by omega⟩
      have hg5 := grown_trans (grown_alloc (grown_refl w4 (some g)) _) hg5
      have hqp : w4.heap.size ≠ p := by omega
      obtain ⟨r0, r1, r2, g0, g1, g2⟩ := (dateAt_keep R4.out hg5 hne).parts
      obtain ⟨p0, p1, p2, q0, q1, q2⟩ := (dateAt_keep P4.out hg5 hpg).parts
      have hg5 := Lib.hid (grown_trans hg4'.out hg5)
      go_wp2
      obtain ⟨f1, f2⟩ := deck_fin hd5 hg5.out hlt (below_set3 ((Below.refl w.heap.size w5).setCell (p := ⟨p, 0, none⟩) hwp (.int .i64 v)) (Nat.le_refl _) (.int .i64 v) (.int .i64 (1 + b)) (.int .i64 (1 + c)))
      exact bodyPost_ret (v := dateV v (1 + b) (1 + c)) (by simp [results, Tryd.results13, dateV, go_sem, r0, r1, r2]) rfl ⟨_, _, _, rfl, ⟨by omega, by omega, by omega⟩, f1, f2⟩
    · by_cases x2 : x = 2
      · subst x2
        go_wp2_with fail
        refine (Next_any g _ hd4 4 (by omega) (by omega)).mono ?_
        rintro e w5 ⟨k, rfl, ⟨hk0, hk1⟩, hd5, hg5⟩
        obtain ⟨r0, r1, r2, g0, g1, g2⟩ := (dateAt_keep R4.out hg5 hne).parts
        obtain ⟨p0, p1, p2, q0, q1, q2⟩ := (dateAt_keep P4.out hg5 hpg).parts
        have hg5 := Lib.hid (grown_trans hg4'.out hg5)
        go_wp2
        obtain ⟨f1, f2⟩ := deck_fin hd5 hg5.out hlt (below_set3 ((Below.refl w.heap.size w5).setCell (p := ⟨p, 2, none⟩) hwp (.int .i64 (29 + k))) (Nat.le_refl _) (.int .i64 (1900 + a)) (.int .i64 (1 + b)) (.int .i64 (29 + k)))
        exact bodyPost_ret (v := dateV (1900 + a) (1 + b) (29 + k)) (by simp [results, Tryd.results13, dateV, go_sem, r0, r1, r2]) rfl ⟨_, _, _, rfl, ⟨by omega, by omega, by omega⟩, f1, f2⟩
      · by_cases x3 : x = 3
        · subst x3
          go_wp2_with fail
          refine (Next_any g _ hd4 14 (by omega) (by omega)).mono ?_
          rintro e w5 ⟨k, rfl, ⟨hk0, hk1⟩, hd5, hg5⟩
          obtain ⟨r0, r1, r2, g0, g1, g2⟩ := (dateAt_keep R4.out hg5 hne).parts
          obtain ⟨p0, p1, p2, q0, q1, q2⟩ := (dateAt_keep P4.out hg5 hpg).parts
          have hg5 := Lib.hid (grown_trans hg4'.out hg5)
          go_wp2
          obtain ⟨f1, f2⟩ := deck_fin hd5 hg5.out hlt (below_set3 ((Below.refl w.heap.size w5).setCell (p := ⟨p, 1, none⟩) hwp (.int .i64 k)) (Nat.le_refl _) (.int .i64 (1900 + a)) (.int .i64 k) (.int .i64 (1 + c)))
          exact bodyPost_ret (v := dateV (1900 + a) k (1 + c)) (by simp [results, Tryd.results13, dateV, go_sem, r0, r1, r2]) rfl ⟨_, _, _, rfl, ⟨by omega, by omega, by omega⟩, f1, f2⟩
        · have t0 : (x == 0) = false := by simp; exact x0
          have t1 : (x == 1) = false := by simp; exact x1
          have t2 : (x == 2) = false := by simp; exact x2
          have t3 : (x == 3) = false := by simp; exact x3
          clear x0 x1 x2 x3
          obtain ⟨r0, r1, r2, g0, g1, g2⟩ := R4.out.parts
          obtain ⟨p0, p1, p2, q0, q1, q2⟩ := P4.out.parts
          go_wp2
          obtain ⟨f1, f2⟩ := deck_fin hd4 hg4'.out hlt (below_set3 (Below.refl w.heap.size w4) (Nat.le_refl _) (.int .i64 (1900 + a)) (.int .i64 (1 + b)) (.int .i64 (1 + c)))
          exact bodyPost_ret (v := dateV (1900 + a) (1 + b) (1 + c)) (by simp [results, Tryd.results13, dateV, go_sem, r0, r1, r2]) rfl ⟨_, _, _, rfl, ⟨by omega, by omega, by omega⟩, f1, f2⟩

def leapS : ByteArray := ⟨#[48, 50, 47, 50, 57, 47, 50, 48, 48, 48]⟩
theorem leap_val : psV leapS = .tuple #[dateV 2000 2 29, .int .i64 0] := by
  have h1 : psV leapS = readV ⟨#[50, 48, 48, 48]⟩ ⟨#[48, 50]⟩ ⟨#[50, 57]⟩ := by rfl
  rw [h1]
  have a1 : numB ⟨#[50, 48, 48, 48]⟩ = some 2000 := by decide +kernel
  have a2 : numB ⟨#[48, 50]⟩ = some 2 := by decide +kernel
  have a3 : numB ⟨#[50, 57]⟩ = some 29 := by decide +kernel
  unfold readV
  rw [a1, a2, a3]
  rfl
theorem leap_fmt : fmtV 2000 2 29 = .tuple #[.string ⟨#[50, 48, 48, 48, 48, 50, 50, 57]⟩, .int .i64 0] := by rfl
theorem leap_day : dayV 1801 1 1 = .tuple #[.int .i64 365, .int .i64 0] := by rfl

set_option maxHeartbeats 1000000 in
theorem awake3_any (w : World) (hE : DEnv w) :
    Calls Tryd.prog 9 #[] w fun e w' => e = .returned (.bool true) ∧ Below w.heap.size w w' := by
  have HE := Lib.hid hE
  clear hE
  have C1 := Lib.hid (Parse_any leapS w HE.out (by unfold maxLen; decide))
  rw [leap_val] at C1
  unfold dateV at C1
  go_enter Tryd.func9, Tryd.ntmps9
  go_wp2_with fail
  refine C1.out.mono ?_
  rintro e w1 ⟨rfl, b1⟩
  have hd1 := Lib.hid (dateAt_new w1 2000 2 29 rfl)
  have B1 := Lib.hid (below_then b1 (below_new w1 (.cells #[.int .i64 2000, .int .i64 2, .int .i64 29] 24)))
  go_wp2_with fail
  have C2 := Lib.hid (Day_any 1801 1 1 (w1.alloc (.cells #[.int .i64 2000, .int .i64 2, .int .i64 29] 24)) (HE.out.below B1.out))
  rw [leap_day] at C2
  refine C2.out.mono ?_
  rintro e w2 ⟨rfl, b2⟩
  obtain ⟨q0, q1, q2, -, -, -⟩ := (hd1.out.below b2 (Nat.le_refl _)).parts
  have B2 := Lib.hid (below_then B1.out b2)
  have hd2 := Lib.hid (hd1.out.below b2 (Nat.le_refl _))
  clear b1 b2
  go_wp2_with fail
  have C3 := Lib.hid (Format_any 2000 2 29 w2 (HE.out.below B2.out))
  rw [leap_fmt] at C3
  refine C3.out.mono ?_
  rintro e w3 ⟨rfl, b3⟩
  clear q0 q1 q2
  obtain ⟨q0, q1, q2, -, -, -⟩ := (hd2.out.below b3 (Nat.le_refl _)).parts
  have B3 := Lib.hid (below_then B2.out b3)
  clear b3
  go_wp2_with fail
  have C4 := Lib.hid (Valid_any 2000 2 29 w3 (HE.out.below B3.out))
  rw [show DM.valid 2000 2 29 = true by rfl] at C4
  refine C4.out.mono ?_
  rintro e w4 ⟨rfl, b4⟩
  go_wp2
  go_ret
  exact ⟨rfl, below_then B3.out b4⟩
end Go.Proofs.YtlgnppfompeghaaDoor
