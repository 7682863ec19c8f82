/- Walks of layer 3's small functions: isLeap, length, Valid, leapsBefore, daysBefore; the reference's length, Valid. -/
import Derived.Test.YtlgnppfompeghaaDoorDBase
import Derived.Test.YtlgnppfompeghaaDoorDateMath
import Derived.Lib.LaidTab
import Derived.Lib.ItoaNum
namespace Go.Proofs.YtlgnppfompeghaaDoor
open Go.RowKit

theorem tab_below {P : Program} {n : String} {g : Nat} {k : IntKind} {zs : List Int} {w w' : World} (hg : P.globalNamed n = some g) (h : Lib.TabIs P w n k zs) (hb : Below w.heap.size w w') : Lib.TabIs P w' n k zs := by
  unfold Lib.TabIs World.var? at h ⊢
  rw [hg] at h ⊢
  simp only [Option.bind_some] at h ⊢
  have hlt : g < w.heap.size := by
    rcases Nat.lt_or_ge g w.heap.size with h' | h'
    · exact h'
    · rw [Array.getElem?_eq_none h'] at h; cases h
  rw [hb.block g hlt]
  exact h

def lengthsL : List Int := [31, 28, 31, 30, 31, 30, 31, 31, 30, 31, 30, 31]
/-- What every world holds of the tables that dates are reckoned with. -/
structure DEnv (w : World) : Prop where
  lengths : Lib.TabIs Tryd.prog w "recordlink/date.lengths" .i64 lengthsL
  tens : Lib.TabIs Tryd.prog w "internal/strconv.uint64pow10" .u64 Lib.pow10Tab
theorem DEnv.below {w w' : World} (h : DEnv w) (hb : Below w.heap.size w w') : DEnv w' :=
  ⟨tab_below (g := 0) (by kernel_rfl) h.lengths hb, tab_below (g := 1) (by kernel_rfl) h.tens hb⟩
theorem DEnv.below' {B : Nat} {w w' : World} (h : DEnv w) (hb : Below B w w') (hB : w.heap.size ≤ B) : DEnv w' := h.below (hb.mono hB)
theorem DEnv.at_ {w : World} (h : DEnv w) (k : Nat) (hk : k < 12) : w.cell? ⟨0, k, none⟩ = some (.int .i64 (lengthsL.getD k 0)) :=
  h.lengths.cell (g := 0) (by kernel_rfl) k (show k < 12 from hk)
theorem len_tab (y : Int) (k : Nat) (hk : k < 12) (h : k ≠ 1 ∨ DM.leap y = false) : lengthsL.getD k 0 = DM.len y ((k : Int) + 1) := by
  match k, hk with
  | 0, _ => rfl
  | 1, _ => rcases h with h | h
            · exact absurd rfl h
            · simp [DM.len, h, lengthsL]
  | 2, _ => rfl
  | 3, _ => rfl
  | 4, _ => rfl
  | 5, _ => rfl
  | 6, _ => rfl
  | 7, _ => rfl
  | 8, _ => rfl
  | 9, _ => rfl
  | 10, _ => rfl
  | 11, _ => rfl

theorem quiet_left {P : Program} {f : FuncId} {args : Array Value} {w : World} {n : Nat} {v : Value}
    (h : Calls P f args (w.drewN n) fun e w' => e = .returned v ∧ w.drewN n = w') : Calls P f args (w.drewN n) fun e w'' => e = .returned v ∧ ∃ m, w'' = w.drewN m :=
  h.mono fun _ _ ⟨he, hm⟩ => ⟨he, n, hm.symm⟩
theorem ret_int {a b : Int} (h : a = b) : Ending.returned (.int .i64 a) = .returned (.int .i64 b) := by rw [h]
/-- A date as a value. -/
def dateV (y m d : Int) : Value := .agg #[.int .i64 y, .int .i64 m, .int .i64 d]

set_option maxHeartbeats 400000 in
theorem isLeap_any (y : Int) (w : World) (h1 : 0 ≤ y) (h2 : y ≤ 100000) :
    Calls Tryd.prog 46 #[.int .i64 y] w fun e w' => e = .returned (.bool (DM.leap y)) ∧ w = w' := by
  unfold DM.leap
  go_enter Tryd.func46, Tryd.ntmps46
  go_wp2
  all_goals go_ret
  all_goals exact ⟨ret_bool (by rw [Bool.eq_iff_iff]; simp; omega), rfl⟩

set_option maxHeartbeats 400000 in
theorem length_any (y m : Int) (w : World) (hE : DEnv w) (h1 : 0 ≤ y) (h2 : y ≤ 100000) (hm1 : 1 ≤ m) (hm2 : m ≤ 12) :
    Calls Tryd.prog 37 #[.int .i64 y, .int .i64 m] w fun e w' => e = .returned (.int .i64 (DM.len y m)) ∧ w = w' := by
  obtain ⟨k, rfl⟩ : ∃ k : Nat, m = (k : Int) + 1 := ⟨(m - 1).toNat, by omega⟩
  have hk : k < 12 := by omega
  have hc := hE.at_ k hk
  have T := Lib.hid (len_tab y k hk)
  have HL := Lib.hid (show DM.len y ((1 : Int) + 1) = if DM.leap y = true then 29 else 28 from rfl)
  have HI := Lib.hid (fun W => isLeap_any y W h1 h2)
  clear hE h1 h2
  generalize lengthsL.getD k 0 = L at *
  generalize hlp : DM.leap y = lp at *
  by_cases hk2 : k = 1
  · subst hk2
    cases lp
    · go_enter Tryd.func37, Tryd.ntmps37
      go_wp2_with (go_at_call 46; refine (HI.out _).mono ?_; rintro e w' ⟨rfl, rfl⟩)
      go_ret
      exact ⟨ret_int (T.out (by simp)), rfl⟩
    · go_enter Tryd.func37, Tryd.ntmps37
      go_wp2_with (go_at_call 46; refine (HI.out _).mono ?_; rintro e w' ⟨rfl, rfl⟩)
      go_ret
      exact ⟨ret_int HL.out.symm, rfl⟩
  · go_enter Tryd.func37, Tryd.ntmps37
    go_wp2_with (go_at_call 46; refine (HI.out _).mono ?_; rintro e w' ⟨rfl, rfl⟩)
    go_ret
    exact ⟨ret_int (T.out (.inl hk2)), rfl⟩

/-- What a call returned: what lies below stays, draws and new blocks apart. -/
theorem below_box (w : World) (o : Obj) (n : Nat) : Below w.heap.size w ((w.alloc o).drewN n) := below_drewN ((Below.refl _ w).alloc (Nat.le_refl _) o) n

set_option maxHeartbeats 2000000 in
theorem Valid_any (y m d : Int) (w : World) (hE : DEnv w) :
    Calls Tryd.prog 22 #[dateV y m d] w fun e w' => e = .returned (.bool (DM.valid y m d)) ∧ Below w.heap.size w w' := by
  have HE := Lib.hid hE
  clear hE
  have V := Lib.hid (@DM.valid_iff y m d)
  unfold dateV
  by_cases h1 : 1800 ≤ y
  · by_cases h2 : y ≤ 2199
    · by_cases h3 : 1 ≤ m
      · by_cases h4 : m ≤ 12
        · by_cases h5 : 1 ≤ d
          · go_enter Tryd.func22, Tryd.ntmps22
            go_wp2
            go_quiet ((go_at_call 37; exact quiet_left (length_any y m _ (HE.out.below (below_box _ _ _)) (by omega) (by omega) h3 h4)))
            go_wp2
            go_ret
            exact ⟨ret_bool (by rw [Bool.eq_iff_iff, V.out]; simp; omega), below_box _ _ _⟩
          · go_enter Tryd.func22, Tryd.ntmps22
            go_wp2
            have hn : ¬ (1 ≤ d) := by omega
            go_quiet (fail)
            go_wp2
            go_ret
            exact ⟨ret_bool (by rw [Bool.eq_iff_iff, V.out]; simp; omega), below_box _ _ _⟩
        · go_enter Tryd.func22, Tryd.ntmps22
          go_wp2
          have hn : ¬ (m ≤ 12) := by omega
          go_quiet (fail)
          go_wp2
          go_ret
          exact ⟨ret_bool (by rw [Bool.eq_iff_iff, V.out]; simp; omega), below_box _ _ _⟩
      · go_enter Tryd.func22, Tryd.ntmps22
        go_wp2
        have hn : ¬ (1 ≤ m) := by omega
        go_quiet (fail)
        go_wp2
        go_ret
        exact ⟨ret_bool (by rw [Bool.eq_iff_iff, V.out]; simp; omega), below_box _ _ _⟩
    · go_enter Tryd.func22, Tryd.ntmps22
      go_wp2
      have hn : ¬ (y ≤ 2199) := by omega
      go_quiet (fail)
      go_wp2
      go_ret
      exact ⟨ret_bool (by rw [Bool.eq_iff_iff, V.out]; simp; omega), below_box _ _ _⟩
  · go_enter Tryd.func22, Tryd.ntmps22
    go_wp2
    have hn : ¬ (1800 ≤ y) := by omega
    go_quiet (fail)
    go_wp2
    go_ret
    exact ⟨ret_bool (by rw [Bool.eq_iff_iff, V.out]; simp; omega), below_box _ _ _⟩

theorem div_pos (y : Int) (h : 1 ≤ y) : Int.tdiv (y - 1) 4 = (y - 1) / 4 ∧ Int.tdiv (y - 1) 100 = (y - 1) / 100 ∧ Int.tdiv (y - 1) 400 = (y - 1) / 400 :=
  ⟨Int.tdiv_eq_ediv_of_nonneg (by omega), Int.tdiv_eq_ediv_of_nonneg (by omega), Int.tdiv_eq_ediv_of_nonneg (by omega)⟩
set_option maxHeartbeats 400000 in
theorem leaps_any (y : Int) (w : World) (h1 : 1 ≤ y) (h2 : y ≤ 100000) :
    Calls Tryd.prog 45 #[.int .i64 y] w fun e w' => e = .returned (.int .i64 ((y - 1) / 4 - (y - 1) / 100 + (y - 1) / 400)) ∧ w = w' := by
  go_enter Tryd.func45, Tryd.ntmps45
  go_wp2
  go_ret
  exact ⟨rfl, rfl⟩
set_option maxHeartbeats 400000 in
theorem before_any (y : Int) (w : World) (h1 : 1800 ≤ y) (h2 : y ≤ 2200) :
    Calls Tryd.prog 36 #[.int .i64 y] w fun e w' => e = .returned (.int .i64 (DM.before y)) ∧ w = w' := by
  have F := Lib.hid (show DM.before y = 365 * (y - 1800) + ((y - 1) / 4 - (y - 1) / 100 + (y - 1) / 400) - 436 from rfl)
  have C1 := Lib.hid (fun W => leaps_any y W (by omega) (by omega))
  have C2 := Lib.hid (fun W => leaps_any 1800 W (by omega) (by omega))
  have B := Lib.hid (show 0 ≤ (y - 1) / 4 - (y - 1) / 100 + (y - 1) / 400 ∧ (y - 1) / 4 - (y - 1) / 100 + (y - 1) / 400 ≤ 1000 by omega)
  generalize hL : (y - 1) / 4 - (y - 1) / 100 + (y - 1) / 400 = L at *
  clear hL
  obtain ⟨b1, b2⟩ := B.out
  go_enter Tryd.func36, Tryd.ntmps36
  go_wp2_with fail
  refine (C1.out _).mono ?_
  rintro e w1 ⟨rfl, rfl⟩
  go_wp2_with fail
  refine (C2.out _).mono ?_
  rintro e w1 ⟨rfl, rfl⟩
  go_wp2
  go_ret
  exact ⟨ret_int F.out.symm, rfl⟩

theorem len_out (y m : Int) : DM.len y m = if m = 2 then (if y % 4 = 0 ∧ (y % 100 ≠ 0 ∨ y % 400 = 0) then 29 else 28) else if m = 4 ∨ m = 6 ∨ m = 9 ∨ m = 11 then 30 else 31 := by
  have h : (DM.leap y = true) ↔ (y % 4 = 0 ∧ (y % 100 ≠ 0 ∨ y % 400 = 0)) := by simp [DM.leap]
  unfold DM.len
  simp only [h]
set_option maxHeartbeats 400000 in
theorem rlength_any (y m : Int) (w : World) (h1 : 0 ≤ y) (h2 : y ≤ 100000) :
    Calls Tryd.prog 38 #[.int .i64 y, .int .i64 m] w fun e w' => e = .returned (.int .i64 (DM.len y m)) ∧ w = w' := by
  have F := Lib.hid (len_out y m)
  go_enter Tryd.func38, Tryd.ntmps38
  go_wp2
  all_goals go_ret
  all_goals refine ⟨ret_int ?_, rfl⟩
  all_goals rw [F.out]
  all_goals clear F
  all_goals simp only [beq_iff_eq, beq_eq_false_iff_ne, ne_eq] at *
  all_goals repeat' split
  all_goals omega

set_option maxHeartbeats 2000000 in
theorem rValid_any (y m d : Int) (w : World) :
    Calls Tryd.prog 23 #[dateV y m d] w fun e w' => e = .returned (.bool (DM.valid y m d)) ∧ Below w.heap.size w w' := by
  have V := Lib.hid (@DM.valid_iff y m d)
  unfold dateV
  by_cases h1 : 1800 ≤ y
  · by_cases h2 : y ≤ 2199
    · by_cases h3 : 1 ≤ m
      · by_cases h4 : m ≤ 12
        · by_cases h5 : 1 ≤ d
          · go_enter Tryd.func23, Tryd.ntmps23
            go_wp2
            go_quiet ((go_at_call 38; exact quiet_left (rlength_any y m _ (by omega) (by omega))))
            go_wp2
            go_ret
            exact ⟨ret_bool (by rw [Bool.eq_iff_iff, V.out]; simp; omega), below_box _ _ _⟩
          · go_enter Tryd.func23, Tryd.ntmps23
            go_wp2
            have hn : ¬ (1 ≤ d) := by omega
            go_quiet (fail)
            go_wp2
            go_ret
            exact ⟨ret_bool (by rw [Bool.eq_iff_iff, V.out]; simp; omega), below_box _ _ _⟩
        · go_enter Tryd.func23, Tryd.ntmps23
          go_wp2
          have hn : ¬ (m ≤ 12) := by omega
          go_quiet (fail)
          go_wp2
          go_ret
          exact ⟨ret_bool (by rw [Bool.eq_iff_iff, V.out]; simp; omega), below_box _ _ _⟩
      · go_enter Tryd.func23, Tryd.ntmps23
        go_wp2
        have hn : ¬ (1 ≤ m) := by omega
        go_quiet (fail)
        go_wp2
        go_ret
        exact ⟨ret_bool (by rw [Bool.eq_iff_iff, V.out]; simp; omega), below_box _ _ _⟩
    · go_enter Tryd.func23, Tryd.ntmps23
      go_wp2
      have hn : ¬ (y ≤ 2199) := by omega
      go_quiet (fail)
      go_wp2
      go_ret
      exact ⟨ret_bool (by rw [Bool.eq_iff_iff, V.out]; simp; omega), below_box _ _ _⟩
  · go_enter Tryd.func23, Tryd.ntmps23
    go_wp2
    have hn : ¬ (1800 ≤ y) := by omega
    go_quiet (fail)
    go_wp2
    go_ret
    exact ⟨ret_bool (by rw [Bool.eq_iff_iff, V.out]; simp; omega), below_box _ _ _⟩

end Go.Proofs.YtlgnppfompeghaaDoor
