/- The program's Set. -/
import Derived.Test.YtfcnodiepdnegaaBitP3
namespace Go.Proofs.Ytfcnodiepdnegaa
open Go.RowKit
set_option linter.unusedVariables false
set_option maxRecDepth 100000

set_option maxHeartbeats 2000000 in
theorem pSet_any (B : Nat) (v : Value) (L : Int) (l : List UInt64) (i : Int) (w : World) (_ : PEnv w) (ha : IsBits B w v L l) (hB : B ≤ w.heap.size) :
    Calls Try.prog 24 #[v, .int .i64 i] w fun e w' => Made w (BM.setM L l i) e w' := by
  obtain ⟨A, c, rfl, HI, h1, h2, hL, -⟩ := ha.open_
  clear ha
  have HV := Lib.hid (fun W h hB => pValid_any B (.agg #[.int .i64 L, .slice A l.length c]) L l W trivial h hB)
  have HN := Lib.hid (fun W => pinside_any (.agg #[.int .i64 L, .slice A l.length c]) L (.slice A l.length c) i W rfl)
  have HC := Lib.hid (fun W h hB hok => pduplicate_any B (.agg #[.int .i64 L, .slice A l.length c]) L l W h hB hok)
  have HM := Lib.hid (show BM.setM L l i = if BM.okB L l then (if 0 ≤ i ∧ i < L then (0, L, BM.setW l i.toNat) else (2, 0, [])) else (8, 0, []) from rfl)
  have hb := two_new8 w (.cells #[.int .i64 L, .slice A l.length c] 25) (.cells #[.int .i64 0, .slice none 0 0] 25)
  have hr0 : ((w.alloc (.cells #[.int .i64 L, .slice A l.length c] 25)).alloc (.cells #[.int .i64 0, .slice none 0 0] 25)).heap[w.heap.size]? = some (.cells #[.int .i64 L, .slice A l.length c] 25 (0, 0)) := (Below.heap_alloc _ _ _ (by simp)).trans (heap_alloc_new w (.cells #[.int .i64 L, .slice A l.length c] 25))
  have hr1 := heap_two8 w (.cells #[.int .i64 L, .slice A l.length c] 25) #[.int .i64 0, .slice none 0 0] 25
  have hs1 : w.heap.size + 2 = ((w.alloc (.cells #[.int .i64 L, .slice A l.length c] 25)).alloc (.cells #[.int .i64 0, .slice none 0 0] 25)).heap.size := by simp
  go_enter Try.func24, Try.ntmps24
  go_wp2_with fail
  generalize (w.alloc (.cells #[.int .i64 L, .slice A l.length c] 25)).alloc (.cells #[.int .i64 0, .slice none 0 0] 25) = W1 at *
  refine (HV.out _ (HI.out.keep (hb.mono hB)) (by omega)).mono ?_
  rintro e w2 ⟨rfl, b2⟩
  have hb2 := same_of hb b2
  have hq0 := (b2.block w.heap.size (by omega)).trans hr0
  have hq1 := (b2.block (w.heap.size + 1) (by omega)).trans hr1
  have hs2 := b2.size
  clear hr0 hr1 hb b2
  obtain ⟨⟨x0, x1⟩, -, -⟩ := row2B hq0
  cases hok : BM.okB L l
  · obtain ⟨⟨y0, y1⟩, f0, f1⟩ := row2B hq1
    have HZ := Lib.hid (cells_set (cells_set hq1 0 (.int .i64 0)) 1 (.slice none 0 0))
    have HBZ := Lib.hid ((hb2.setCell (p := ⟨w.heap.size + 1, 0, none⟩) (Nat.le_succ _) (.int .i64 0)).setCell (p := ⟨w.heap.size + 1, 1, none⟩) (Nat.le_succ _) (.slice none 0 0))
    go_wp2
    have t0 := cell_of_row _ _ 0 _ _ _ HZ.out
    have t1 := cell_of_row _ _ 1 _ _ _ HZ.out
    refine bodyPost_ret (v := .tuple #[zeroV, .int .i64 8]) (by simp [results, Try.results24, zeroV, go_sem, t0, t1]) rfl ?_
    rw [HM.out, hok]
    exact ⟨_, rfl, World.ownsRow_nil _ _ _ _, zero_range, HBZ.out⟩
  · by_cases hin : 0 ≤ i ∧ i < L
    · have HMR := Lib.hid (show BM.setM L l i = (0, L, BM.setW l i.toNat) by rw [HM.out, hok, if_pos hin]; rfl)
      obtain ⟨hi0, hi1⟩ := hin
      rw [decide_eq_true hi0, decide_eq_true hi1] at HN
      obtain ⟨m, rfl⟩ := Int.eq_ofNat_of_zero_le hi0
      have hml := okB_lt hok hi1
      obtain ⟨hne, hl9⟩ := okB_ne hok
      have hL5 : L ≤ 512 := by rw [BM.okB_iff] at hok; omega
      have HOK := Lib.hid hok
      clear hok HM
      go_wp2_with fail
      refine (HN.out _).mono ?_
      rintro e w3 ⟨rfl, b3⟩
      have hb3 := same_of hb2 b3
      have hq0 := (b3.block w.heap.size (by omega)).trans hq0
      have hq1 := (b3.block (w.heap.size + 1) (by omega)).trans hq1
      have hs3 := b3.size
      clear x0 x1 hb2 b3
      obtain ⟨⟨x0, x1⟩, -, -⟩ := row2B hq0
      go_wp2_with fail
      refine (HC.out _ (HI.out.keep (hb3.mono hB)) (by omega) HOK.out).mono ?_
      rintro e w4 ⟨u, rfl, own4, b4⟩
      obtain ⟨g, cap, rfl, hg, hg2, hcap, hcap2⟩ := own4.form hne
      unfold maxLen at hcap2
      obtain ⟨W5, hW5⟩ : ∃ W, W = w4.alloc (.cells #[.int .i64 L, .slice (some ⟨g, 0, none⟩) l.length cap] 25) := ⟨_, rfl⟩
      have b5 : Below w3.heap.size w3 W5 := by rw [hW5]; exact b4.alloc b4.size _
      have own5 : OwnsW w3.heap.size W5 (.slice (some ⟨g, 0, none⟩) l.length cap) l := by rw [hW5]; exact own4.keep ((Below.refl _ w4).alloc (Nat.le_refl _) _)
      have hs5 : W5.heap.size = w4.heap.size + 1 := by rw [hW5]; simp
      have hs4 := b4.size
      have hz1 := (b5.block (w.heap.size + 1) (by omega)).trans hq1
      have hX5 : W5.heap[w4.heap.size]? = some (.cells #[.int .i64 L, .slice (some ⟨g, 0, none⟩) l.length cap] 25 (0, 0)) := by rw [hW5]; exact heap_alloc_new w4 _
      obtain ⟨⟨q0, q1⟩, -, -⟩ := row2B hX5
      obtain ⟨c0, fr0⟩ := own5.cellAt (m / 64) hml rfl
      have HMK := Lib.hid (fun W => pmask_any m W (by omega))
      obtain ⟨K, hK⟩ : ∃ K, K = m / 64 := ⟨_, rfl⟩
      have hKw : IntKind.i64.wrap ((m : Int) / 64) = (K : Int) := by
        rw [hK]
        simp [IntKind.wrap, IntKind.bits, IntKind.signed]
        omega
      have hKl : (K : Int) < (l.length : Int) := by omega
      have hor := n64_or l[m / 64] ((1 : UInt64) <<< (m % 64).toUInt64)
      have HNEW := Lib.hid (show BM.setW l m = l.set (m / 64) (l[m / 64] ||| ((1 : UInt64) <<< (m % 64).toUInt64)) by
        unfold BM.setW
        rw [List.getD_eq_getElem?_getD, List.getElem?_eq_getElem hml]
        rfl)
      generalize l[m / 64] ||| ((1 : UInt64) <<< (m % 64).toUInt64) = nw at *
      generalize ((1 : UInt64) <<< (m % 64).toUInt64) = bt at *
      generalize l[m / 64] = xw at *
      rw [← hK] at c0 fr0 HNEW
      obtain ⟨W6, hW6⟩ : ∃ W, W = W5.drew := ⟨_, rfl⟩
      have own6 : OwnsW w3.heap.size W6 (.slice (some ⟨g, 0, none⟩) l.length cap) l := by rw [hW6]; exact own5
      have HST := Lib.hid (own6.store K nw)
      have hx6 : (W6.setCell ⟨g, K, none⟩ (.int .u64 (n64 nw))).heap[w4.heap.size]? = some (.cells #[.int .i64 L, .slice (some ⟨g, 0, none⟩) l.length cap] 25 (0, 0)) := (Below.heap_setCell W6 ⟨g, K, none⟩ (.int .u64 (n64 nw)) w4.heap.size (by show w4.heap.size ≠ g; omega)).trans (by rw [hW6]; exact hX5)
      have hr6 : (W6.setCell ⟨g, K, none⟩ (.int .u64 (n64 nw))).heap[w.heap.size + 1]? = some (.cells #[.int .i64 0, .slice none 0 0] 25 (0, 0)) := (Below.heap_setCell W6 ⟨g, K, none⟩ (.int .u64 (n64 nw)) (w.heap.size + 1) (by show w.heap.size + 1 ≠ g; omega)).trans (by rw [hW6]; exact hz1)
      have hb6 : Below w.heap.size w (W6.setCell ⟨g, K, none⟩ (.int .u64 (n64 nw))) := by
        rw [hW6]
        exact ((hb3.trans (b5.mono hb3.size)).drew).setCell (p := ⟨g, K, none⟩) (by show w.heap.size ≤ g; omega) (.int .u64 (n64 nw))
      have e0 : W6.cell? ⟨g, K, none⟩ = some (.int .u64 (n64 xw)) := by rw [hW6]; exact c0
      have e1 : W6.frozen? ⟨g, K, none⟩ = false := by rw [hW6]; exact fr0
      obtain ⟨⟨p0, p1⟩, -, -⟩ := row2B hx6
      obtain ⟨⟨y0, y1⟩, f0, f1⟩ := row2B hr6
      have HF := Lib.hid (cells_set (cells_set hr6 0 (.int .i64 L)) 1 (.slice (some ⟨g, 0, none⟩) l.length cap))
      have HBF := Lib.hid ((hb6.setCell (p := ⟨w.heap.size + 1, 0, none⟩) (Nat.le_succ _) (.int .i64 L)).setCell (p := ⟨w.heap.size + 1, 1, none⟩) (Nat.le_succ _) (.slice (some ⟨g, 0, none⟩) l.length cap))
      have HOF := Lib.hid (((HST.out.set (p := ⟨w.heap.size + 1, 0, none⟩) (by show w.heap.size + 1 < w3.heap.size; omega) (.int .i64 L)).set (p := ⟨w.heap.size + 1, 1, none⟩) (by show w.heap.size + 1 < w3.heap.size; omega) (.slice (some ⟨g, 0, none⟩) l.length cap)).less (b' := w.heap.size) (by omega))
      go_wp2_with fail
      rw [← hW5]
      clear hW5 own4 own5 own6 b4 b5 hX5 hz1 x0 x1 hK HST hx6 hr6 hb6 hq0 hq1
      refine wp_region_still_tail 10 (by kernel_rfl) (by kernel_rfl) ?_
      simp only [List.take_succ_cons, List.take_zero, List.drop_succ_cons, List.drop_zero]
      repeat still_step
      still_call (HMK.out _)
      repeat still_step
      refine wpStill_nil ?_
      change wpList _ _ _ _ _ W5.drew
      rw [← hW6]
      clear hW6 q0 q1 c0 fr0 HC HV HN HMK
      go_wp2
      have t0 := cell_of_row _ _ 0 _ _ _ HF.out
      have t1 := cell_of_row _ _ 1 _ _ _ HF.out
      refine bodyPost_ret (v := .tuple #[.agg #[.int .i64 L, .slice (some ⟨g, 0, none⟩) l.length cap], .int .i64 0]) (by simp [results, Try.results24, go_sem, t0, t1]) rfl ?_
      rw [HMR.out, Int.toNat_natCast, HNEW.out]
      exact ⟨_, rfl, HOF.out, hL, HBF.out⟩
    · have hq : (decide (0 ≤ i) && decide (i < L)) = false := by
        simp only [Bool.and_eq_false_iff, decide_eq_false_iff_not]
        omega
      rw [hq] at HN
      have HMR := Lib.hid (show BM.setM L l i = (2, 0, []) by rw [HM.out, hok, if_neg hin]; rfl)
      clear hin hq HM HC hok
      go_wp2_with fail
      refine (HN.out _).mono ?_
      rintro e w3 ⟨rfl, b3⟩
      have hb3 := same_of hb2 b3
      have hq1 := (b3.block (w.heap.size + 1) (by omega)).trans hq1
      obtain ⟨⟨y0, y1⟩, f0, f1⟩ := row2B hq1
      have HZ := Lib.hid (cells_set (cells_set hq1 0 (.int .i64 0)) 1 (.slice none 0 0))
      have HBZ := Lib.hid ((hb3.setCell (p := ⟨w.heap.size + 1, 0, none⟩) (Nat.le_succ _) (.int .i64 0)).setCell (p := ⟨w.heap.size + 1, 1, none⟩) (Nat.le_succ _) (.slice none 0 0))
      clear x0 x1 hb2 b3 hq0
      go_wp2
      have t0 := cell_of_row _ _ 0 _ _ _ HZ.out
      have t1 := cell_of_row _ _ 1 _ _ _ HZ.out
      refine bodyPost_ret (v := .tuple #[zeroV, .int .i64 2]) (by simp [results, Try.results24, zeroV, go_sem, t0, t1]) rfl ?_
      rw [HMR.out]
      exact ⟨_, rfl, World.ownsRow_nil _ _ _ _, zero_range, HBZ.out⟩
end Go.Proofs.Ytfcnodiepdnegaa
