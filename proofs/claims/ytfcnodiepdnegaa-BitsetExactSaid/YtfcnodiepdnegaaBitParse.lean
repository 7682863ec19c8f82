/- The reference's Parse. -/
import Derived.Test.YtfcnodiepdnegaaBitRead
namespace Go.Proofs.Ytfcnodiepdnegaa
open Go.RowKit
set_option linter.unusedVariables false
set_option maxRecDepth 100000

theorem readL_next (k : Nat) (s : List UInt8) : BM.readL (k + 1) s = (BM.readL k s).bind fun ls => (BM.readN 0 ((s.drop (16 * k)).take 16)).map fun x => ls ++ [UInt64.ofNat x] := by
  induction k generalizing s with
  | zero =>
    simp only [BM.readL, Nat.mul_zero, List.drop_zero, Option.bind_some]
    cases BM.readN 0 (s.take 16) <;> rfl
  | succ k ih =>
    rw [BM.readL]
    rw [show BM.readL (k + 1) s = match BM.readN 0 (s.take 16) with | some x => (BM.readL k (s.drop 16)).map (UInt64.ofNat x :: ·) | none => none from rfl]
    cases BM.readN 0 (s.take 16) with
    | none => rfl
    | some x =>
      simp only
      rw [ih, List.drop_drop, show 16 + 16 * k = 16 * (k + 1) by omega]
      cases BM.readL k (s.drop 16) with
      | none => rfl
      | some ls =>
        simp only [Option.bind_some, Option.map_some]
        cases BM.readN 0 ((s.drop (16 * (k + 1))).take 16) <;> rfl
theorem readL_none (s : List UInt8) (k n : Nat) (h : BM.readL k s = none) (hk : k ≤ n) : BM.readL n s = none := by
  induction n with
  | zero =>
    obtain rfl : k = 0 := by omega
    exact h
  | succ n ih =>
    by_cases e : k = n + 1
    · subst e; exact h
    · rw [readL_next, ih (by omega)]
      rfl
theorem readL_len (k : Nat) (s : List UInt8) (ls : List UInt64) (h : BM.readL k s = some ls) : ls.length = k := by
  induction k generalizing ls with
  | zero =>
    simp [BM.readL] at h
    subst h
    rfl
  | succ k ih =>
    rw [readL_next] at h
    cases hk : BM.readL k s with
    | none => rw [hk] at h; cases h
    | some l0 =>
      rw [hk] at h
      simp only [Option.bind_some] at h
      cases hx : BM.readN 0 ((s.drop (16 * k)).take 16) with
      | none => rw [hx] at h; cases h
      | some x =>
        rw [hx] at h
        simp only [Option.map_some, Option.some.injEq] at h
        rw [← h, List.length_append, ih l0 hk]
        rfl
theorem extract_16 (s : ByteArray) (k : Nat) : (s.extract (16 * k) (16 * k + 16)).data.toList = (s.data.toList.drop (16 * k)).take 16 := by
  rw [Lib.extract_data]
  simp
set_option maxHeartbeats 2000000 in
theorem rParse_any (s : ByteArray) (w : World) (hs : s.size ≤ 1000000) :
    Calls Try.prog 37 #[.string s] w fun e w' => Made w (BM.parseM s.data.toList) e w' := by
  have HL := Lib.hid (fun n W hn => rlength_any n W hn)
  have HM := Lib.hid (show BM.parseM s.data.toList = if decide (s.data.toList.length % 16 = 0) && BM.lenB (4 * s.data.toList.length) then (match BM.readL (s.data.toList.length / 16) s.data.toList with | some l => ((0, 4 * (s.data.toList.length : Int), l) : BM.Out) | none => (14, 0, [])) else (14, 0, []) from rfl)
  rw [size_list] at HM
  have hb0 : Below w.heap.size w (w.alloc (.cells #[.int .i64 0, .slice none 0 0] 25)) := (Below.refl _ w).alloc (Nat.le_refl _) _
  have hq0 := heap_alloc_new w (.cells #[.int .i64 0, .slice none 0 0] 25)
  have z0 := new_cellW w #[.int .i64 0, .slice none 0 0] 25 0 _ rfl
  have z1 := new_cellW w #[.int .i64 0, .slice none 0 0] 25 1 _ rfl
  go_enter Try.func37, Try.ntmps37
  by_cases h16 : s.size % 16 = 0
  · have hi16 : (s.size : Int) % 16 = 0 := by omega
    go_wp2_with fail
    refine (HL.out _ _ (by omega)).mono ?_
    rintro e w1 ⟨rfl, hw⟩
    subst w1
    cases hl : BM.lenB (4 * s.size)
    · have HMR := Lib.hid (show BM.parseM s.data.toList = (14, 0, []) by rw [HM.out, decide_eq_true h16, hl]; rfl)
      go_wp2
      refine bodyPost_ret (v := .tuple #[zeroV, .int .i64 14]) (by simp [results, Try.results37, zeroV, go_sem, z0, z1]) rfl ?_
      rw [HMR.out]
      exact ⟨_, rfl, World.ownsRow_nil _ _ _ _, zero_range, hb0⟩
    · obtain ⟨g1, g2, -⟩ := len_range hl
      have HMR := Lib.hid (show BM.parseM s.data.toList = (match BM.readL (s.size / 16) s.data.toList with | some l => ((0, 4 * (s.size : Int), l) : BM.Out) | none => (14, 0, [])) by rw [HM.out, decide_eq_true h16, hl]; rfl)
      obtain ⟨N, hN⟩ : ∃ N, s.size = 16 * N := ⟨s.size / 16, by omega⟩
      have HN := Lib.hid (show s.size = 16 * N from hN)
      have hN8 : N ≤ 8 := by omega
      have hsz : s.size ≤ 128 := by omega
      have HND := Lib.hid (show s.size / 16 = N by omega)
      have hX := heap_two8 w (.cells #[.int .i64 0, .slice none 0 0] 25) #[.int .i64 (4 * (s.size : Int)), .slice none 0 0] 25
      have hqr := (Below.heap_alloc (w.alloc (.cells #[.int .i64 0, .slice none 0 0] 25)) (.cells #[.int .i64 (4 * (s.size : Int)), .slice none 0 0] 25) w.heap.size (by simp)).trans hq0
      have hb1 := two_new8 w (.cells #[.int .i64 0, .slice none 0 0] 25) (.cells #[.int .i64 (4 * (s.size : Int)), .slice none 0 0] 25)
      have HO0 := Lib.hid (World.ownsRow_nil ((w.alloc (.cells #[.int .i64 0, .slice none 0 0] 25)).alloc (.cells #[.int .i64 (4 * (s.size : Int)), .slice none 0 0] 25)) (w.heap.size + 2) 51 1)
      have HRD := Lib.hid (fun t W ht => rRead_any t W ht)
      clear hN hi16
      go_wp2_with fail
      generalize (w.alloc (.cells #[.int .i64 0, .slice none 0 0] 25)).alloc (.cells #[.int .i64 (4 * (s.size : Int)), .slice none 0 0] 25) = W2 at *
      have H2 := Lib.hid (And.intro hX (And.intro hqr hb1))
      clear hX hqr hb1 z0 z1 hb0 hq0 hl h16
      go_loopw [5] (fun iv wr => ∃ (k : Nat) (ls : List UInt64) (u : Value), k ≤ N ∧ iv = .int .i64 ((16 * k : Nat) : Int) ∧ BM.readL k s.data.toList = some ls ∧ wr.heap[w.heap.size + 1]? = some (.cells #[.int .i64 (4 * (s.size : Int)), u] 25 (0, 0)) ∧ wr.heap[w.heap.size]? = some (.cells #[.int .i64 0, .slice none 0 0] 25 (0, 0)) ∧ OwnsW (w.heap.size + 2) wr u ls ∧ Below w.heap.size w wr) (fun iv _ => 200 - (intOf iv).toNat)
      case atStart => exact ⟨0, [], _, Nat.zero_le _, rfl, rfl, H2.out.1, H2.out.2.1, HO0.out, H2.out.2.2⟩
      case round =>
        obtain ⟨k, ls, u, hk, rfl, hread, hqx, hqr, hown, hbr⟩ := hrel
        obtain ⟨A3, c3, rfl⟩ := hown.slice_
        have hXr : w.heap.size + 1 < wr.heap.size := (Array.getElem?_eq_some_iff.1 hqx).1
        have HREAD := Lib.hid hread
        have hlk := readL_len k _ ls hread
        by_cases hlt : k < N
        · obtain ⟨q, hq⟩ : ∃ q, q = 16 * k := ⟨_, rfl⟩
          rw [← hq]
          have hqs : q + 16 ≤ s.size := by have := HN.out; omega
          have hex := extract_16 s k
          rw [← hq] at hex
          have i1 : (q : Int) < (s.size : Int) := by omega
          have i2 : (q : Int) + 16 ≤ (s.size : Int) := by omega
          have HEX := Lib.hid hex
          have HQ := Lib.hid hq
          have HNX := Lib.hid (readL_next k s.data.toList)
          have hTs : (s.extract q (q + 16)).size ≤ 16 := by simp; omega
          have hls : ls.length ≤ 8 := by omega
          have HTL := Lib.hid (show ((s.data.toList.drop (16 * k)).take 16).length = 16 by
            have := HN.out
            rw [List.length_take, List.length_drop, size_list]
            omega)
          obtain ⟨T, hT⟩ : ∃ T, s.extract q (q + 16) = T := ⟨_, rfl⟩
          have HRT := Lib.hid (fun W => rRead_any T W (by rw [← hT]; exact hTs))
          rw [hT] at HEX
          clear hex hq hread hTs hlk HRD
          go_wp2_with fail
          refine (HRT.out _).mono ?_
          rintro e w3 ⟨rfl, b3⟩
          have hqx3 := (b3.block (w.heap.size + 1) (by omega)).trans hqx
          have hqr3 := (b3.block w.heap.size (by omega)).trans hqr
          have hown3 := hown.keep b3
          have hb3 := same_of hbr b3
          have hs3 := b3.size
          clear hqx hqr hown hbr b3
          have hv : readV T.data.toList = match BM.readN 0 ((s.data.toList.drop (16 * k)).take 16) with | some x => .tuple #[.int .u64 (n64 (UInt64.ofNat x)), .bool true] | none => .tuple #[.int .u64 0, .bool false] := by
            unfold readV
            rw [HEX.out, HQ.out, if_pos HTL.out]
            cases BM.readN 0 ((s.data.toList.drop (16 * k)).take 16) <;> rfl
          have hnx := HNX.out
          rw [HREAD.out] at hnx
          simp only [Option.bind_some] at hnx
          cases hx : BM.readN 0 ((s.data.toList.drop (16 * k)).take 16)
          · rw [hx] at hv hnx
            simp only [Option.map_none] at hnx hv
            rw [hv]
            have HV := Lib.hid (show BM.parseM s.data.toList = (14, 0, []) by
              rw [HMR.out, HND.out, readL_none _ _ N hnx (by omega)])
            have y0 : w3.cell? ⟨w.heap.size, 0, none⟩ = some (.int .i64 0) := by rw [cell_of_row _ _ _ _ _ _ hqr3]; rfl
            have y1 : w3.cell? ⟨w.heap.size, 1, none⟩ = some (.slice none 0 0) := by rw [cell_of_row _ _ _ _ _ _ hqr3]; rfl
            have f0 := Lib.frozen_of_heap hqr3 0
            have f1 := Lib.frozen_of_heap hqr3 1
            have HF := Lib.hid (cells_set (cells_set hqr3 0 (.int .i64 0)) 1 (.slice none 0 0))
            have HBF := Lib.hid ((hb3.setCell (p := ⟨w.heap.size, 0, none⟩) (Nat.le_refl _) (.int .i64 0)).setCell (p := ⟨w.heap.size, 1, none⟩) (Nat.le_refl _) (.slice none 0 0))
            clear hv hnx hx hqx3 hqr3 hown3 hb3 hT
            go_wp2
            have t0 := cell_of_row _ _ 0 _ _ _ HF.out
            have t1 := cell_of_row _ _ 1 _ _ _ HF.out
            refine bodyPost_ret (v := .tuple #[zeroV, .int .i64 14]) (by simp [results, Try.results37, zeroV, go_sem, t0, t1]) rfl ?_
            rw [HV.out]
            exact ⟨_, rfl, World.ownsRow_nil _ _ _ _, zero_range, HBF.out⟩
          · rename_i x
            rw [hx] at hv hnx
            simp only [Option.map_some] at hnx hv
            rw [hv]
            have HRN := Lib.hid hnx
            generalize UInt64.ofNat x = ux at *
            have z1 : w3.cell? ⟨w.heap.size + 1, 1, none⟩ = some (.slice A3 ls.length c3) := by rw [cell_of_row _ _ _ _ _ _ hqx3]; rfl
            have fz1 := Lib.frozen_of_heap hqx3 1
            have HOL := Lib.hid (fun q hq => World.ownsRow.lt hown3 q hq)
            have HB3 := Lib.hid hb3
            have HQX := Lib.hid hqx3
            have HQR := Lib.hid hqr3
            have HOW := Lib.hid hown3
            clear hv hnx hx hT hb3 hqx3 hqr3 hown3
            go_wp2_with (at_builtin; refine wpList_append_words rfl _ _ rfl (w.heap.size + 2) (by simp; omega) _ ls rfl (World.ownsRow.alloc HOW.out _) _ _ [ux] rfl (words_one (new_cellW _ _ _ 0 _ rfl)) (proper_some _ _ _) (by simp; omega) ?_)
            intro v5 w5 own5 grow5
            have own5' : OwnsW (w.heap.size + 2) w5 v5 (ls ++ [ux]) := by
              unfold OwnsW
              simpa using own5
            clear own5
            obtain ⟨g5, cap5, rfl, hg5, -⟩ := own5'.form (by simp)
            have F : Below (w.heap.size + 2) w3 w5 := ((Below.refl _ w3).alloc (by omega) _).grown grow5 (by simp; omega) (fun q hq => (HOL.out q hq).1)
            have hx5 := (F.block (w.heap.size + 1) (by omega)).trans HQX.out
            have hr5 := (F.block w.heap.size (by omega)).trans HQR.out
            have p1 : w5.cell? ⟨w.heap.size + 1, 1, none⟩ = some (.slice A3 ls.length c3) := by rw [cell_of_row _ _ _ _ _ _ hx5]; rfl
            have fp1 := Lib.frozen_of_heap hx5 1
            have hll : (ls ++ [ux]).length = ls.length + 1 := by simp
            have HX6 := Lib.hid (cells_set hx5 1 (.slice (some ⟨g5, 0, none⟩) (ls ++ [ux]).length cap5))
            have HB6 := Lib.hid ((HB3.out.trans (F.mono (by omega))).setCell (p := ⟨w.heap.size + 1, 1, none⟩) (Nat.le_succ _) (.slice (some ⟨g5, 0, none⟩) (ls ++ [ux]).length cap5))
            have HR6 := Lib.hid ((Below.heap_setCell w5 ⟨w.heap.size + 1, 1, none⟩ (.slice (some ⟨g5, 0, none⟩) (ls ++ [ux]).length cap5) w.heap.size (by show w.heap.size ≠ w.heap.size + 1; omega)).trans hr5)
            have HO6 := Lib.hid (own5'.set (p := ⟨w.heap.size + 1, 1, none⟩) (Nat.lt_succ_self _) (.slice (some ⟨g5, 0, none⟩) (ls ++ [ux]).length cap5))
            rw [hll] at HX6 HB6 HR6
            have HO7 : Hid (OwnsW (w.heap.size + 2) (w5.setCell ⟨w.heap.size + 1, 1, none⟩ (.slice (some ⟨g5, 0, none⟩) (ls.length + 1) cap5)) (.slice (some ⟨g5, 0, none⟩) (ls.length + 1) cap5) (ls ++ [ux])) := by
              rw [← hll]
              exact HO6
            clear HO6 own5' grow5 F hx5 hr5 z1 fz1 hll HOW HQX HQR HB3 HOL
            go_wp2
            exact ⟨⟨k + 1, ls ++ [ux], _, by omega, by have := HQ.out; go_num, HRN.out, HX6.out, HR6.out, HO7.out, HB6.out⟩, by simp [intOf]; omega⟩
        · obtain rfl : k = N := by omega
          have HV := Lib.hid (show BM.parseM s.data.toList = ((0, 4 * (s.size : Int), ls) : BM.Out) by rw [HMR.out, HND.out, hread])
          have i1 : ¬ ((16 * k : Nat) : Int) < (s.size : Int) := by have := HN.out; omega
          obtain ⟨q, hq⟩ : ∃ q, q = 16 * k := ⟨_, rfl⟩
          rw [← hq] at i1 ⊢
          have p0 : wr.cell? ⟨w.heap.size + 1, 0, none⟩ = some (.int .i64 (4 * (s.size : Int))) := by rw [cell_of_row _ _ _ _ _ _ hqx]; rfl
          have p1 : wr.cell? ⟨w.heap.size + 1, 1, none⟩ = some (.slice A3 ls.length c3) := by rw [cell_of_row _ _ _ _ _ _ hqx]; rfl
          have y0 : wr.cell? ⟨w.heap.size, 0, none⟩ = some (.int .i64 0) := by rw [cell_of_row _ _ _ _ _ _ hqr]; rfl
          have y1 : wr.cell? ⟨w.heap.size, 1, none⟩ = some (.slice none 0 0) := by rw [cell_of_row _ _ _ _ _ _ hqr]; rfl
          have f0 := Lib.frozen_of_heap hqr 0
          have f1 := Lib.frozen_of_heap hqr 1
          have HF := Lib.hid (cells_set (cells_set hqr 0 (.int .i64 (4 * (s.size : Int)))) 1 (.slice A3 ls.length c3))
          have HBF := Lib.hid ((hbr.setCell (p := ⟨w.heap.size, 0, none⟩) (Nat.le_refl _) (.int .i64 (4 * (s.size : Int)))).setCell (p := ⟨w.heap.size, 1, none⟩) (Nat.le_refl _) (.slice A3 ls.length c3))
          have HOF := Lib.hid (((hown.set (p := ⟨w.heap.size, 0, none⟩) (by show w.heap.size < w.heap.size + 2; omega) (.int .i64 (4 * (s.size : Int)))).set (p := ⟨w.heap.size, 1, none⟩) (by show w.heap.size < w.heap.size + 2; omega) (.slice A3 ls.length c3)).less (b' := w.heap.size) (by omega))
          clear hqx hqr hown hbr hread hlk hq
          go_wp2
          have t0 := cell_of_row _ _ 0 _ _ _ HF.out
          have t1 := cell_of_row _ _ 1 _ _ _ HF.out
          refine bodyPost_ret (v := .tuple #[.agg #[.int .i64 (4 * (s.size : Int)), .slice A3 ls.length c3], .int .i64 0]) (by simp [results, Try.results37, go_sem, t0, t1]) rfl ?_
          rw [HV.out]
          exact ⟨_, rfl, HOF.out, by unfold InRange; dsimp only; omega, HBF.out⟩
  · have hi16 : ¬ (s.size : Int) % 16 = 0 := by omega
    have HMR := Lib.hid (show BM.parseM s.data.toList = (14, 0, []) by rw [HM.out, decide_eq_false h16]; rfl)
    go_wp2
    refine bodyPost_ret (v := .tuple #[zeroV, .int .i64 14]) (by simp [results, Try.results37, zeroV, go_sem, z0, z1]) rfl ?_
    rw [HMR.out]
    exact ⟨_, rfl, World.ownsRow_nil _ _ _ _, zero_range, hb0⟩
end Go.Proofs.Ytfcnodiepdnegaa
