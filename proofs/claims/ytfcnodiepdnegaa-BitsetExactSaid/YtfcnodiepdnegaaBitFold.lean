/- The reference's Fold. -/
import Derived.Test.YtfcnodiepdnegaaBitComb
namespace Go.Proofs.Ytfcnodiepdnegaa
open Go.RowKit
set_option linter.unusedVariables false
set_option maxRecDepth 100000

theorem foldW_at (l : List UInt64) (k : Nat) (h : k < l.length / 2) : (BM.foldW l)[k]'(by rw [BM.foldW_len]; exact h) = l[k] ^^^ l[l.length / 2 + k] := by
  unfold BM.foldW
  rw [List.getElem_zipWith, List.getElem_take, List.getElem_drop]
theorem foldW_next (l : List UInt64) (k : Nat) (h : k < l.length / 2) : (BM.foldW l).take (k + 1) = (BM.foldW l).take k ++ [l[k] ^^^ l[l.length / 2 + k]] := by
  rw [List.take_succ_eq_append_getElem (by rw [BM.foldW_len]; exact h), foldW_at l k h]
set_option maxHeartbeats 2000000 in
theorem rFold_any (B : Nat) (v : Value) (L : Int) (l : List UInt64) (w : World) (h : IsBits B w v L l) (hB : B ≤ w.heap.size) :
    Calls Try.prog 29 #[v] w fun e w' => Made w (BM.foldM L l) e w' := by
  obtain ⟨A, c, rfl, HI, h1, h2, hL, HCB⟩ := h.open_
  clear h
  have HV := Lib.hid (fun W h => rValid_any B (.agg #[.int .i64 L, .slice A l.length c]) L l W h)
  have hqa : ((w.alloc (.cells #[.int .i64 L, .slice A l.length c] 25)).alloc (.cells #[.int .i64 0, .slice none 0 0] 25)).heap[w.heap.size]? = _ := (Below.heap_alloc _ _ _ (by simp)).trans (heap_alloc_new w (.cells #[.int .i64 L, .slice A l.length c] 25))
  have hqr := heap_two8 w (.cells #[.int .i64 L, .slice A l.length c] 25) #[.int .i64 0, .slice none 0 0] 25
  have hbw := two_new8 w (.cells #[.int .i64 L, .slice A l.length c] 25) (.cells #[.int .i64 0, .slice none 0 0] 25)
  have hs1 : w.heap.size + 2 = ((w.alloc (.cells #[.int .i64 L, .slice A l.length c] 25)).alloc (.cells #[.int .i64 0, .slice none 0 0] 25)).heap.size := by simp
  have HM := Lib.hid (show BM.foldM L l = if BM.okB L l then (if L % 128 = 0 then (0, L / 2, BM.foldW l) else (2, 0, [])) else (8, 0, []) from rfl)
  go_enter Try.func29, Try.ntmps29
  go_wp2_with fail
  generalize (w.alloc (.cells #[.int .i64 L, .slice A l.length c] 25)).alloc (.cells #[.int .i64 0, .slice none 0 0] 25) = W1 at *
  refine (HV.out _ (HI.out.keep (hbw.mono hB))).mono ?_
  rintro e w2 ⟨rfl, b2⟩
  have hbc := same_of hbw b2
  have hqa2 := (b2.block w.heap.size (by omega)).trans hqa
  have hqr2 := (b2.block (w.heap.size + 1) (by omega)).trans hqr
  have hs2 : w.heap.size + 2 ≤ w2.heap.size := by have := b2.size; omega
  clear b2 hbw hs1 hqa hqr HI HV
  have x0 : w2.cell? ⟨w.heap.size, 0, none⟩ = some (.int .i64 L) := by rw [cell_of_row _ _ _ _ _ _ hqa2]; rfl
  have x1 : w2.cell? ⟨w.heap.size, 1, none⟩ = some (.slice A l.length c) := by rw [cell_of_row _ _ _ _ _ _ hqa2]; rfl
  have y0 : w2.cell? ⟨w.heap.size + 1, 0, none⟩ = some (.int .i64 0) := by rw [cell_of_row _ _ _ _ _ _ hqr2]; rfl
  have y1 : w2.cell? ⟨w.heap.size + 1, 1, none⟩ = some (.slice none 0 0) := by rw [cell_of_row _ _ _ _ _ _ hqr2]; rfl
  have f0 := Lib.frozen_of_heap hqr2 0
  have f1 := Lib.frozen_of_heap hqr2 1
  have HZ := Lib.hid (cells_set (cells_set hqr2 0 (.int .i64 0)) 1 (.slice none 0 0))
  have HBZ := Lib.hid ((hbc.setCell (p := ⟨w.heap.size + 1, 0, none⟩) (Nat.le_succ _) (.int .i64 0)).setCell (p := ⟨w.heap.size + 1, 1, none⟩) (Nat.le_succ _) (.slice none 0 0))
  cases hok : BM.okB L l
  · go_wp2
    have t0 := cell_of_row _ _ 0 _ _ _ HZ.out
    have t1 := cell_of_row _ _ 1 _ _ _ HZ.out
    refine bodyPost_ret (v := .tuple #[zeroV, .int .i64 8]) (by simp [results, Try.results29, zeroV, go_sem, t0, t1]) rfl ?_
    rw [HM.out, hok]
    exact ⟨_, rfl, World.ownsRow_nil _ _ _ _, zero_range, HBZ.out⟩
  · have hLr : 64 ≤ L ∧ L ≤ 512 ∧ l.length ≤ 8 := by rw [BM.okB_iff] at hok; omega
    obtain ⟨g1, g2, g3⟩ := hLr
    by_cases hm : L % 128 = 0
    · have HMR := Lib.hid (show BM.foldM L l = (0, L / 2, BM.foldW l) by rw [HM.out, hok, if_pos hm]; rfl)
      have heven : l.length % 2 = 0 := by rw [BM.okB_iff] at hok; omega
      have HEV := Lib.hid heven
      clear hok heven HM
      obtain ⟨H, hH⟩ : ∃ H : Nat, H = l.length / 2 := ⟨_, rfl⟩
      have hHi : (l.length : Int) / 2 = (H : Int) := by omega
      obtain ⟨L', hL'⟩ : ∃ L', L' = L / 2 := ⟨_, rfl⟩
      have hLi : L / 2 = L' := hL'.symm
      have HHD := Lib.hid hH
      have HLD := Lib.hid hL'
      have hL'r : InRange L' := by unfold InRange; omega
      have hH8 : H ≤ 4 := by omega
      clear hH hL'
      have hX := heap_alloc_new w2 (.cells #[.int .i64 L', .slice none 0 0] 25)
      have hqa3 := (Below.heap_alloc w2 (.cells #[.int .i64 L', .slice none 0 0] 25) w.heap.size (by omega)).trans hqa2
      have hqr3 := (Below.heap_alloc w2 (.cells #[.int .i64 L', .slice none 0 0] 25) (w.heap.size + 1) (by omega)).trans hqr2
      have hb3 := hbc.alloc hbc.size (.cells #[.int .i64 L', .slice none 0 0] 25)
      have hs3 : w2.heap.size + 1 = (w2.alloc (.cells #[.int .i64 L', .slice none 0 0] 25)).heap.size := by simp
      have HO0 := Lib.hid (World.ownsRow_nil (w2.alloc (.cells #[.int .i64 L', .slice none 0 0] 25)) (w2.heap.size + 1) 51 1)
      go_wp2_with fail
      generalize w2.alloc (.cells #[.int .i64 L', .slice none 0 0] 25) = W3 at *
      generalize w2.heap.size = X at *
      have H3 := Lib.hid (And.intro hqa3 (And.intro hqr3 (And.intro hX hb3)))
      clear hqa2 hqr2 hqa3 hqr3 hX hb3 x0 x1 y0 y1 f0 f1 HZ HBZ hbc hHi hLi hm
      go_loopw [6] (fun iv wr => ∃ (k : Nat) (u : Value), k ≤ H ∧ iv = .int .i64 k ∧ wr.heap[w.heap.size]? = some (.cells #[.int .i64 L, .slice A l.length c] 25 (0, 0)) ∧ wr.heap[w.heap.size + 1]? = some (.cells #[.int .i64 0, .slice none 0 0] 25 (0, 0)) ∧ wr.heap[X]? = some (.cells #[.int .i64 L', u] 25 (0, 0)) ∧ OwnsW (X + 1) wr u ((BM.foldW l).take k) ∧ Below w.heap.size w wr) (fun iv _ => H - (intOf iv).toNat)
      case atStart => exact ⟨0, _, Nat.zero_le _, rfl, H3.out.1, H3.out.2.1, H3.out.2.2.1, HO0.out, H3.out.2.2.2⟩
      case round =>
        obtain ⟨k, u, hk, rfl, hqa, hqr, hqx, hown, hbr⟩ := hrel
        obtain ⟨A3, c3, rfl⟩ := hown.slice_
        have hXr : X < wr.heap.size := (Array.getElem?_eq_some_iff.1 hqx).1
        by_cases hlt : k < H
        · have hlh : k < l.length / 2 := by have := HHD.out; omega
          have HNX := Lib.hid (foldW_next l k hlh)
          have hlen : ((BM.foldW l).take k).length = k := by rw [List.length_take, BM.foldW_len]; omega
          have hk2 : l.length / 2 + k < l.length := by omega
          have hHk : l.length / 2 + k = H + k := by have := HHD.out; omega
          obtain ⟨bb, oo, rfl, hbB, d0⟩ := HCB.out k (by omega)
          obtain ⟨bb', oo', hbb, -, e0⟩ := HCB.out (l.length / 2 + k) hk2
          simp only [Option.some.injEq, Addr.mk.injEq, and_true] at hbb
          obtain ⟨rfl, rfl⟩ := hbb
          have d1 := (hbr.cell (p := ⟨bb, oo + k, none⟩) (by show bb < w.heap.size; omega)).trans d0
          have e1 := (hbr.cell (p := ⟨bb, oo + (l.length / 2 + k), none⟩) (by show bb < w.heap.size; omega)).trans e0
          have hx := n64_xor (l[k]'(by omega)) l[l.length / 2 + k]
          generalize (l[k]'(by omega) ^^^ l[l.length / 2 + k]) = nw at *
          generalize l[l.length / 2 + k] = ky at *
          generalize l[k]'(by omega) = kx at *
          rw [hHk] at e1
          have x1 : wr.cell? ⟨w.heap.size, 1, none⟩ = some (.slice (some ⟨bb, oo, none⟩) l.length c) := by rw [cell_of_row _ _ _ _ _ _ hqa]; rfl
          have z1 : wr.cell? ⟨X, 1, none⟩ = some (.slice A3 ((BM.foldW l).take k).length c3) := by rw [cell_of_row _ _ _ _ _ _ hqx]; rfl
          have fz1 := Lib.frozen_of_heap hqx 1
          have i1 : (k : Int) < (H : Int) := by omega
          have i2 : (k : Int) < (l.length : Int) := by omega
          obtain ⟨q, hq⟩ : ∃ q, q = H + k := ⟨_, rfl⟩
          have hwr : IntKind.i64.wrap ((H : Int) + (k : Int)) = (q : Int) := by
            rw [hq]
            simp [IntKind.wrap, IntKind.bits, IntKind.signed]
            omega
          have i3 : (q : Int) < (l.length : Int) := by omega
          rw [← hq] at e1
          generalize (BM.foldW l).take k = acc at *
          have HLN := Lib.hid hlen
          have HOL := Lib.hid (fun q hq => World.ownsRow.lt hown q hq)
          clear d0 e0 hlen hHk hk2 hlh hq
          go_wp2_with fail
          go_region_law
            (first
              | (refine step_append_words ?g1 (.tmp 30) (.tmp 44) ?g2 (X + 1) ?g3 (.slice A3 acc.length c3) acc ?g4 ?g8 _ _ [nw] ?g5 (words_one (n := wr.heap.size) ?g7) (proper_some _ _ _) ?g6 ?_
                 case g2 => rfl
                 case g1 => rfl
                 case g3 => first | omega | (simp; omega)
                 case g4 => simp [Act.eval]
                 case g5 => simp [Act.eval]
                 case g6 => first | (simp; omega) | (simp [HLN.out]; omega)
                 case g7 => first | exact new_cellW _ _ _ 0 _ rfl
                 case g8 => first | exact hown | exact World.ownsRow.alloc hown _
                 intro v2 w5 own2 grow2
                 have F : Below (X + 1) wr w5 := Below.grown (by first | exact (Below.refl _ wr).alloc (by omega) _ | exact ((Below.refl _ wr).alloc (by omega) _).drew) grow2 (by first | omega | (simp; omega)) (fun q hq => (HOL.out q hq).1)
                 obtain ⟨g5, cap5, rfl, hg5, -⟩ := OwnsW.form (l := acc ++ [nw]) own2 (by simp)
                 have hx5 := (F.block X (Nat.lt_succ_self _)).trans hqx
                 have p1 : w5.cell? ⟨X, 1, none⟩ = some (.slice A3 acc.length c3) := by rw [cell_of_row _ _ _ _ _ _ hx5]; rfl
                 have fp1 := Lib.frozen_of_heap hx5 1))
          all_goals
            have HX6 := Lib.hid (cells_set hx5 1 (.slice (some ⟨g5, 0, none⟩) (acc ++ [nw]).length cap5))
            have HB6 := Lib.hid ((hbr.trans (F.mono (by omega))).setCell (p := ⟨X, 1, none⟩) (by show w.heap.size ≤ X; omega) (.slice (some ⟨g5, 0, none⟩) (acc ++ [nw]).length cap5))
            have HA6 := Lib.hid ((Below.heap_setCell w5 ⟨X, 1, none⟩ (.slice (some ⟨g5, 0, none⟩) (acc ++ [nw]).length cap5) w.heap.size (by show w.heap.size ≠ X; omega)).trans ((F.block w.heap.size (by omega)).trans hqa))
            have HR6 := Lib.hid ((Below.heap_setCell w5 ⟨X, 1, none⟩ (.slice (some ⟨g5, 0, none⟩) (acc ++ [nw]).length cap5) (w.heap.size + 1) (by show w.heap.size + 1 ≠ X; omega)).trans ((F.block (w.heap.size + 1) (by omega)).trans hqr))
            have HO6 := Lib.hid (OwnsW.set (l := acc ++ [nw]) own2 (p := ⟨X, 1, none⟩) (Nat.lt_succ_self _) (.slice (some ⟨g5, 0, none⟩) (acc ++ [nw]).length cap5))
            rw [show (acc ++ [nw]).length = acc.length + 1 by simp] at HX6 HB6 HA6 HR6 HO6
            rw [← HNX.out] at HO6
            clear hqa hqr hqx hown hbr own2 grow2 F hx5 p1 fp1 HOL z1 fz1 x1 d1 e1 hx hwr
            go_wp2
            exact ⟨⟨k + 1, _, by omega, by go_num, HA6.out, HR6.out, HX6.out, HO6.out, HB6.out⟩, by simp [intOf]; omega⟩
        · obtain rfl : k = H := by omega
          have hfl : (BM.foldW l).take k = BM.foldW l := by
            rw [List.take_of_length_le]
            rw [BM.foldW_len]
            have := HHD.out
            omega
          rw [hfl] at hown hqx
          clear hfl
          have z0 : wr.cell? ⟨X, 0, none⟩ = some (.int .i64 L') := by rw [cell_of_row _ _ _ _ _ _ hqx]; rfl
          have z1 : wr.cell? ⟨X, 1, none⟩ = some (.slice A3 (BM.foldW l).length c3) := by rw [cell_of_row _ _ _ _ _ _ hqx]; rfl
          have y0 : wr.cell? ⟨w.heap.size + 1, 0, none⟩ = some (.int .i64 0) := by rw [cell_of_row _ _ _ _ _ _ hqr]; rfl
          have y1 : wr.cell? ⟨w.heap.size + 1, 1, none⟩ = some (.slice none 0 0) := by rw [cell_of_row _ _ _ _ _ _ hqr]; rfl
          have f0 := Lib.frozen_of_heap hqr 0
          have f1 := Lib.frozen_of_heap hqr 1
          have HF := Lib.hid (cells_set (cells_set hqr 0 (.int .i64 L')) 1 (.slice A3 (BM.foldW l).length c3))
          have HBF := Lib.hid ((hbr.setCell (p := ⟨w.heap.size + 1, 0, none⟩) (Nat.le_succ _) (.int .i64 L')).setCell (p := ⟨w.heap.size + 1, 1, none⟩) (Nat.le_succ _) (.slice A3 (BM.foldW l).length c3))
          have HOF := Lib.hid (((hown.set (p := ⟨w.heap.size + 1, 0, none⟩) (by show w.heap.size + 1 < X + 1; omega) (.int .i64 L')).set (p := ⟨w.heap.size + 1, 1, none⟩) (by show w.heap.size + 1 < X + 1; omega) (.slice A3 (BM.foldW l).length c3)).less (b' := w.heap.size) (by omega))
          rw [← HLD.out] at HMR
          clear hqa hqr hqx hown hbr
          generalize BM.foldW l = FW at *
          go_wp2
          have t0 := cell_of_row _ _ 0 _ _ _ HF.out
          have t1 := cell_of_row _ _ 1 _ _ _ HF.out
          refine bodyPost_ret (v := .tuple #[.agg #[.int .i64 L', .slice A3 FW.length c3], .int .i64 0]) (by simp [results, Try.results29, go_sem, t0, t1]) rfl ?_
          rw [HMR.out]
          exact ⟨_, rfl, HOF.out, hL'r, HBF.out⟩
    · have HMR := Lib.hid (show BM.foldM L l = (2, 0, []) by rw [HM.out, hok, if_neg hm]; rfl)
      go_wp2
      have t0 := cell_of_row _ _ 0 _ _ _ HZ.out
      have t1 := cell_of_row _ _ 1 _ _ _ HZ.out
      refine bodyPost_ret (v := .tuple #[zeroV, .int .i64 2]) (by simp [results, Try.results29, zeroV, go_sem, t0, t1]) rfl ?_
      rw [HMR.out]
      exact ⟨_, rfl, World.ownsRow_nil _ _ _ _, zero_range, HBZ.out⟩
end Go.Proofs.Ytfcnodiepdnegaa
