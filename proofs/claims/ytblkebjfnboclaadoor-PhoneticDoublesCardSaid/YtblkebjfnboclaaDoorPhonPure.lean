/- Walks of layer 6's small functions: the program's digit and isDigit; the reference's digit. -/
import Derived.Test.YtblkebjfnboclaaDoorPhonMath
import Derived.Test.YtblkebjfnboclaaDoorTextPure
namespace Go.Proofs.YtblkebjfnboclaaDoor
open Go.RowKit
set_option maxRecDepth 100000

theorem ret_u8 {a b : Int} (h : a = b) : Ending.returned (.int .u8 a) = .returned (.int .u8 b) := by rw [h]

set_option maxHeartbeats 4000000 in
theorem digit_any (c : UInt8) (w : World) :
    Calls Tryd.prog 28 #[.int .u8 c.toNat] w fun e w' => e = .returned (.int .u8 (PM.pd (PM.dig c))) ∧ w = w' := by
  have hb := c.toNat_lt
  have HP := Lib.hid (show PM.pd (PM.dig c) = if c.toNat = 98 ∨ c.toNat = 102 ∨ c.toNat = 112 ∨ c.toNat = 118 then 49
      else if c.toNat = 99 ∨ c.toNat = 103 ∨ c.toNat = 106 ∨ c.toNat = 107 ∨ c.toNat = 113 ∨ c.toNat = 115 ∨ c.toNat = 120 ∨ c.toNat = 122 then 50
      else if c.toNat = 100 ∨ c.toNat = 116 then 51 else if c.toNat = 108 then 52 else if c.toNat = 109 ∨ c.toNat = 110 then 53 else if c.toNat = 114 then 54
      else if c.toNat = 104 ∨ c.toNat = 119 then 115 else 118 by
    unfold PM.pd PM.dig
    dsimp only
    repeat' split
    all_goals omega)
  go_enter Tryd.func28, Tryd.ntmps28
  go_wp2
  all_goals go_ret
  all_goals refine ⟨ret_u8 ?_, rfl⟩
  all_goals rw [HP.out]
  all_goals simp only [beq_iff_eq, beq_eq_false_iff_ne] at *
  all_goals (repeat' split)
  all_goals omega

set_option maxHeartbeats 400000 in
theorem isDigit_any (c : UInt8) (w : World) :
    Calls Tryd.prog 29 #[.int .u8 (PM.pd (PM.dig c))] w fun e w' => e = .returned (.bool (decide (1 < PM.dig c))) ∧ w = w' := by
  have hc := PM.pd_cases c
  generalize PM.pd (PM.dig c) = p at *
  generalize PM.dig c = d at *
  have HC := Lib.hid hc
  clear hc
  go_enter Tryd.func29, Tryd.ntmps29
  go_wp2
  all_goals go_ret
  all_goals refine ⟨ret_bool ?_, rfl⟩
  all_goals have hc := HC.out
  all_goals rw [Bool.eq_iff_iff]
  all_goals simp at *
  all_goals omega

/-- The reference's rows of letters. -/
def tabL : List ByteArray := [⟨#[98, 102, 112, 118]⟩, ⟨#[99, 103, 106, 107, 113, 115, 120, 122]⟩, ⟨#[100, 116]⟩, ⟨#[108]⟩, ⟨#[109, 110]⟩, ⟨#[114]⟩]
theorem tab_size : ∀ i : Fin 6, (tabL[i.val]'i.isLt).size ≤ 8 := by decide
theorem tab_dig (i : Nat) (hi : i < tabL.length) (k : Nat) (hk : k < tabL[i].size) : PM.dig tabL[i][k] = 49 + i := by
  have h : ∀ i : Fin 6, ∀ k : Fin 8, ∀ hk : k.val < (tabL[i.val]'i.isLt).size, PM.dig ((tabL[i.val]'i.isLt)[k.val]) = 49 + i.val := by decide
  have hz := tab_size ⟨i, hi⟩
  exact h ⟨i, hi⟩ ⟨k, Nat.lt_of_lt_of_le hk hz⟩ hk
theorem tab_all (c : UInt8) (h : 49 ≤ PM.dig c) : ∃ (i : Nat) (hi : i < tabL.length) (k : Nat) (hk : k < tabL[i].size), tabL[i][k] = c := by
  have key : ∀ n : Fin 256, 49 ≤ PM.dig (UInt8.ofNat n.val) → ∃ i : Fin 6, ∃ k : Fin 8, ∃ hk : k.val < (tabL[i.val]'i.isLt).size, (tabL[i.val]'i.isLt)[k.val] = UInt8.ofNat n.val := by decide +kernel
  have e : UInt8.ofNat c.toNat = c := by simp
  obtain ⟨i, k, hk, hx⟩ := key ⟨c.toNat, c.toNat_lt⟩ (by show 49 ≤ PM.dig (UInt8.ofNat c.toNat); rw [e]; exact h)
  exact ⟨i.val, i.isLt, k.val, hk, hx.trans e⟩
theorem dig_silent (c : UInt8) : PM.dig c = 1 ↔ c.toNat = 104 ∨ c.toNat = 119 := by
  unfold PM.dig
  dsimp only
  repeat' split
  all_goals omega

/-- No letter of the rows before i, nor of the first k of row i. -/
def none_ (c : UInt8) (i k : Nat) : Prop := (∀ j, ∀ hj : j < tabL.length, j < i → ∀ m, ∀ hm : m < tabL[j].size, tabL[j][m] ≠ c) ∧ (∀ hi : i < tabL.length, ∀ m, ∀ hm : m < tabL[i].size, m < k → tabL[i][m] ≠ c)
theorem none_start (c : UInt8) : none_ c 0 0 := ⟨fun _ _ h => absurd h (Nat.not_lt_zero _), fun _ _ _ h => absurd h (Nat.not_lt_zero _)⟩
theorem none_next {c : UInt8} {i k : Nat} (hi : i < tabL.length) (hk : k < tabL[i].size) (h : none_ c i k) (hne : tabL[i][k] ≠ c) : none_ c i (k + 1) := by
  refine ⟨h.1, fun hi' m hm hlt => ?_⟩
  by_cases e : m = k
  · subst e; exact hne
  · exact h.2 hi' m hm (by omega)
theorem none_row {c : UInt8} {i k : Nat} (hi : i < tabL.length) (hk : tabL[i].size ≤ k) (h : none_ c i k) : none_ c (i + 1) 0 := by
  refine ⟨fun j hj hlt m hm => ?_, fun _ _ _ h => absurd h (Nat.not_lt_zero _)⟩
  by_cases e : j = i
  · subst e; exact h.2 hj m hm (by omega)
  · exact h.1 j hj (by omega) m hm
theorem none_dig {c : UInt8} {i : Nat} (hi : 6 ≤ i) (h : none_ c i 0) (hs : PM.dig c ≠ 1) : PM.dig c = 0 := by
  have hv := PM.dig_vals c
  by_cases h49 : 49 ≤ PM.dig c
  · obtain ⟨j, hj, m, hm, hx⟩ := tab_all c h49
    exact absurd hx (h.1 j hj (Nat.lt_of_lt_of_le hj hi) m hm)
  · omega

set_option maxHeartbeats 2000000 in
theorem rdigit_any (c : UInt8) (w : World) :
    Calls Tryd.prog 31 #[.int .u8 c.toNat] w fun e w' => e = .returned (.int .u8 (PM.dig c)) ∧ Below w.heap.size w w' := by
  have hb := c.toNat_lt
  by_cases hs : PM.dig c = 1
  · have h := (dig_silent c).1 hs
    have HS := Lib.hid hs
    clear hs
    go_enter Tryd.func31, Tryd.ntmps31
    rcases h with h | h
    · have h : (c.toNat : Int) = 104 := by omega
      rw [h]
      go_wp2
      go_ret
      exact ⟨ret_u8 (by rw [HS.out]; rfl), Below.refl _ _⟩
    · have h : (c.toNat : Int) = 119 := by omega
      rw [h]
      go_wp2
      go_ret
      exact ⟨ret_u8 (by rw [HS.out]; rfl), Below.refl _ _⟩
  · have h := (not_congr (dig_silent c)).1 hs
    have t1 : ((c.toNat : Int) == 104) = false := by simp; omega
    have t2 : ((c.toNat : Int) == 119) = false := by simp; omega
    have HS := Lib.hid hs
    clear hs h
    have hblk : ∀ W, Below (w.heap.size + 1) (w.alloc (.cells (tabL.map Value.string).toArray 9)) W → ∀ k, ∀ hk : k < tabL.length, W.cell? ⟨w.heap.size, k, none⟩ = some (.string tabL[k]) := by
      intro W hb k hk
      rw [hb.cell (p := ⟨w.heap.size, k, none⟩) (Nat.lt_succ_self _), cell_of_row _ _ _ _ _ _ (heap_alloc_new w _)]
      simp [hk]
    have HB := Lib.hid hblk
    clear hblk
    go_enter Tryd.func31, Tryd.ntmps31
    go_wp2
    go_loopw [4] (fun i wr => ∃ (n : Nat), n ≤ 6 ∧ i = .int .i64 n ∧ none_ c n 0 ∧ Below (w.heap.size + 1) (w.alloc (.cells (tabL.map Value.string).toArray 9)) wr) (fun i _ => 6 - (intOf i).toNat)
    case atStart => exact ⟨0, by omega, rfl, none_start c, Below.refl _ _⟩
    case round =>
      obtain ⟨n, hn, rfl, hnone, hbw⟩ := hrel
      have HN := Lib.hid hnone
      clear hnone
      by_cases hlt : n < 6
      · have hc := HB.out wr hbw n hlt
        have hR : ∃ R : ByteArray, R = tabL[n] := ⟨_, rfl⟩
        obtain ⟨R, hR⟩ := hR
        have hz : R.size ≤ 8 := by rw [hR]; exact tab_size ⟨n, hlt⟩
        have HF := Lib.hid (show ∀ k (hk : k < R.size), R[k] = c → PM.dig c = 49 + n by
          subst hR
          intro k hk e
          rw [← e]
          exact tab_dig n hlt k hk)
        have HX := Lib.hid (show ∀ k (hk : k < R.size), none_ c n k → R[k] ≠ c → none_ c n (k + 1) by
          subst hR
          intro k hk h hne
          exact none_next hlt hk h hne)
        have HY := Lib.hid (show ∀ k, R.size ≤ k → none_ c n k → none_ c (n + 1) 0 by
          subst hR
          intro k hk h
          exact none_row hlt hk h)
        rw [← hR] at hc
        clear hR
        go_wp2
        go_loop [5] (fun k => ∃ m : Nat, m ≤ R.size ∧ k = .int .i64 m ∧ none_ c n m) (fun k => R.size - (intOf k).toNat)
        case atStart => exact ⟨0, by omega, rfl, HN.out⟩
        case round =>
          obtain ⟨m, hm, rfl, hnone⟩ := hrel
          have HM := Lib.hid hnone
          clear hnone
          by_cases hml : m < R.size
          · by_cases he : (R[m].toNat : Int) = (c.toNat : Int)
            · have te : ((R[m].toNat : Int) == (c.toNat : Int)) = true := by simp; omega
              have hd := HF.out m hml (UInt8.toNat_inj.1 (by omega))
              have HD := Lib.hid hd
              clear hd
              go_wp2
              go_ret
              refine ⟨ret_u8 ?_, (Below.refl _ w).alloc (Nat.le_refl _) _ |>.trans (hbw.mono (by omega))⟩
              rw [HD.out]
              go_num
            · have te : ((R[m].toNat : Int) == (c.toNat : Int)) = false := by simp; omega
              have hd := HX.out m hml HM.out (fun e => he (by rw [e]))
              have HD := Lib.hid hd
              clear hd
              go_wp2
              exact ⟨⟨m + 1, by omega, by go_num, HD.out⟩, by simp [intOf]; omega⟩
          · have hd := HY.out m (by omega) HM.out
            have HD := Lib.hid hd
            clear hd
            go_wp2
            exact ⟨⟨n + 1, by omega, by go_num, HD.out, hbw⟩, by simp [intOf]; omega⟩
      · go_wp2
        go_ret
        refine ⟨ret_u8 ?_, (Below.refl _ w).alloc (Nat.le_refl _) _ |>.trans (hbw.mono (by omega))⟩
        rw [none_dig (show 6 ≤ n by omega) HN.out HS.out]
        rfl
end Go.Proofs.YtblkebjfnboclaaDoor
