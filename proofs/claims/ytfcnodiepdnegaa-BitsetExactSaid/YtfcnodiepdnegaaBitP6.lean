/- The program's Fold. -/
import Derived.Test.YtfcnodiepdnegaaBitP5
import Derived.Deep.RegionWith
namespace Go.Proofs.Ytfcnodiepdnegaa
open Go.RowKit
set_option linter.unusedVariables false
set_option maxRecDepth 100000

theorem wrap_small {n : Int} (h : 0 ≤ n ∧ n ≤ 100000) : IntKind.i64.wrap n = n := by
  simp [IntKind.wrap, IntKind.bits, IntKind.signed]
  omega
theorem IsWs.front {B b o n c H : Nat} {w : World} {l : List UInt64} (h : IsWs B w (.slice (some ⟨b, o, none⟩) n c) l) (hH : H ≤ l.length) : IsWs B w (.slice (some ⟨b, o, none⟩) H c) (l.take H) := by
  obtain ⟨a, c', hv, h1, h2, h3⟩ := h
  obtain ⟨rfl, rfl, rfl⟩ : some (⟨b, o, none⟩ : Addr) = a ∧ n = l.length ∧ c = c' := by simpa using hv
  refine ⟨_, c, by rw [List.length_take, Nat.min_eq_left hH], by rw [List.length_take]; omega, h2, ?_⟩
  rcases h3 with rfl | ⟨b', o', ha, hlt, hc⟩
  · exact .inl (by simp)
  · obtain ⟨rfl, rfl⟩ : b = b' ∧ o = o' := by simpa using ha
    refine .inr ⟨b, o, rfl, hlt, fun j x hx => hc j x ?_⟩
    by_cases hj : j < H
    · rwa [List.getElem?_take_of_lt hj] at hx
    · rw [List.getElem?_eq_none (by rw [List.length_take]; omega)] at hx
      cases hx
theorem IsWs.back {B b o n c H : Nat} {w : World} {l : List UInt64} (h : IsWs B w (.slice (some ⟨b, o, none⟩) n c) l) (hH : H ≤ l.length) : IsWs B w (.slice (some ⟨b, o + H, none⟩) (n - H) (c - H)) (l.drop H) := by
  obtain ⟨a, c', hv, h1, h2, h3⟩ := h
  obtain ⟨rfl, rfl, rfl⟩ : some (⟨b, o, none⟩ : Addr) = a ∧ n = l.length ∧ c = c' := by simpa using hv
  refine ⟨_, c - H, by rw [List.length_drop], by rw [List.length_drop]; omega, by omega, ?_⟩
  rcases h3 with rfl | ⟨b', o', ha, hlt, hc⟩
  · exact .inl (by simp)
  · obtain ⟨rfl, rfl⟩ : b = b' ∧ o = o' := by simpa using ha
    refine .inr ⟨b, o + H, rfl, hlt, fun j x hx => ?_⟩
    rw [List.getElem?_drop] at hx
    rw [Nat.add_assoc]
    exact hc (H + j) x hx
set_option maxHeartbeats 2000000 in
theorem pFold_any (B : Nat) (v : Value) (L : Int) (l : List UInt64) (w : World) (_ : PEnv w) (ha : IsBits B w v L l) (hB : B ≤ w.heap.size) :
    Calls Try.prog 28 #[v] w fun e w' => Made w (BM.foldM L l) e w' := by
  obtain ⟨A, c, rfl, HI, h1, h2, hL, -⟩ := ha.open_
  clear ha
  have HV := Lib.hid (fun W h hB => pValid_any B (.agg #[.int .i64 L, .slice A l.length c]) L l W trivial h hB)
  have HM := Lib.hid (show BM.foldM L l = if BM.okB L l then (if L % 128 = 0 then (0, L / 2, BM.foldW l) else (2, 0, [])) else (8, 0, []) from rfl)
  have hb := two_new8 w (.cells #[.int .i64 L, .slice A l.length c] 25) (.cells #[.int .i64 0, .slice none 0 0] 25)
  have hr0 : ((w.alloc (.cells #[.int .i64 L, .slice A l.length c] 25)).alloc (.cells #[.int .i64 0, .slice none 0 0] 25)).heap[w.heap.size]? = some (.cells #[.int .i64 L, .slice A l.length c] 25 (0, 0)) := (Below.heap_alloc _ _ _ (by simp)).trans (heap_alloc_new w (.cells #[.int .i64 L, .slice A l.length c] 25))
  have hr1 := heap_two8 w (.cells #[.int .i64 L, .slice A l.length c] 25) #[.int .i64 0, .slice none 0 0] 25
  have hs1 : w.heap.size + 2 = ((w.alloc (.cells #[.int .i64 L, .slice A l.length c] 25)).alloc (.cells #[.int .i64 0, .slice none 0 0] 25)).heap.size := by simp
  go_enter Try.func28, Try.ntmps28
  go_wp2_with fail
  generalize (w.alloc (.cells #[.int .i64 L, .slice A l.length c] 25)).alloc (.cells #[.int .i64 0, .slice none 0 0] 25) = W1 at *
  refine (HV.out _ (HI.out.keep (hb.mono hB)) (by omega)).mono ?_
  rintro e w2 ⟨rfl, b2⟩
  have hb2 := same_of hb b2
  have hq0 := (b2.block w.heap.size (by omega)).trans hr0
  have hq1 := (b2.block (w.heap.size + 1) (by omega)).trans hr1
  have hs2 := b2.size
  clear hr0 hr1 hb b2
  obtain ⟨⟨x0, x1⟩, -, -⟩ := row2B hq0
  cases hok : BM.okB L l
  · obtain ⟨⟨y0, y1⟩, f0, f1⟩ := row2B hq1
    have HZ := Lib.hid (cells_set (cells_set hq1 0 (.int .i64 0)) 1 (.slice none 0 0))
    have HBZ := Lib.hid ((hb2.setCell (p := ⟨w.heap.size + 1, 0, none⟩) (Nat.le_succ _) (.int .i64 0)).setCell (p := ⟨w.heap.size + 1, 1, none⟩) (Nat.le_succ _) (.slice none 0 0))
    go_wp2
    have t0 := cell_of_row _ _ 0 _ _ _ HZ.out
    have t1 := cell_of_row _ _ 1 _ _ _ HZ.out
    refine bodyPost_ret (v := .tuple #[zeroV, .int .i64 8]) (by simp [results, Try.results28, zeroV, go_sem, t0, t1]) rfl ?_
    rw [HM.out, hok]
    exact ⟨_, rfl, World.ownsRow_nil _ _ _ _, zero_range, HBZ.out⟩
  · have hkk := hok
    rw [BM.okB_iff] at hkk
    obtain ⟨k1, k2, k3⟩ := hkk
    by_cases hin : L % 128 = 0
    · have HMR := Lib.hid (show BM.foldM L l = (0, L / 2, BM.foldW l) by rw [HM.out, hok, if_pos hin]; rfl)
      obtain ⟨hne, hl9⟩ := okB_ne hok
      have HW := Lib.hid HI.out.words
      obtain ⟨b, o, rfl⟩ := HW.out.some_ hne
      obtain ⟨H, hH⟩ : ∃ H, H = l.length / 2 := ⟨_, rfl⟩
      obtain ⟨K, hK⟩ : ∃ K, K = L / 2 := ⟨_, rfl⟩
      have d2 : 2 * H = l.length := by omega
      have hK2 : K = 64 * (H : Int) := by omega
      have hLL : 0 ≤ L ∧ L ≤ 512 := by omega
      have tin : (L % 128 != 0) = false := by rw [hin]; rfl
      have HT := Lib.hid (show (l.take H).length = H ∧ (l.drop H).length = l.length - H by rw [List.length_take, List.length_drop]; omega)
      have HFM := Lib.hid (show BM.combM (fun x y => x ^^^ y) (L / 2) (l.take H) (L / 2) (l.drop H) = BM.foldM L l by
        rw [← hK]
        have e1 : BM.okB K (l.take H) = true := by rw [BM.okB_iff, HT.out.1]; omega
        have e2 : BM.okB K (l.drop H) = true := by rw [BM.okB_iff, HT.out.2]; omega
        rw [HMR.out]
        unfold BM.combM BM.foldW
        rw [e1, e2, decide_eq_true rfl, ← hH, ← hK]
        rfl)
      have HX := Lib.hid (fun W (h : Below w.heap.size w W) (hB3 : w.heap.size ≤ W.heap.size) => pXor_any B (.agg #[.int .i64 (L / 2), .slice (some ⟨b, o, none⟩) H c]) (.agg #[.int .i64 (L / 2), .slice (some ⟨b, o + H, none⟩) (l.length - H) (c - H)]) (L / 2) (l.take H) (L / 2) (l.drop H) W trivial ⟨_, rfl, (HW.out.keep (h.mono hB)).front (by omega), by omega, by omega⟩ ⟨_, rfl, (HW.out.keep (h.mono hB)).back (by omega), by omega, by omega⟩ (by omega))
      obtain ⟨R, hR⟩ : ∃ R, R = BM.foldM L l := ⟨_, rfl⟩
      rw [HFM.out, ← hR] at HX
      have HRE := Lib.hid hR
      clear hR
      have HK3 := Lib.hid k3
      have HD2 := Lib.hid d2
      have HH := Lib.hid hH
      have HKK := Lib.hid hK
      have qw : IntKind.i64.wrap (L / 2) = L / 2 := wrap_small (by omega)
      have qw2 : IntKind.i64.wrap ((l.length : Int) / 2) = (H : Int) := by
        rw [show (l.length : Int) / 2 = (H : Int) by omega]
        exact wrap_small (by omega)
      have q3 : (0 : Int) ≤ (H : Int) := by omega
      have q4 : (H : Int) ≤ (c : Int) := by omega
      have q5 : (H : Int) ≤ (l.length : Int) := by omega
      have q6 : ¬ (c = H) := by omega
      clear k3 d2 hH hK hK2 hok hin HM HI HW
      go_wp2_with fail
      go_quiet (fail)
      obtain ⟨W3, hW3⟩ : ∃ W, W = w2.drewN nq := ⟨_, rfl⟩
      have hb3 : Below w.heap.size w W3 := by rw [hW3]; exact below_drewN hb2 nq
      have hr1 : W3.heap[w.heap.size + 1]? = some (.cells #[.int .i64 0, .slice none 0 0] 25 (0, 0)) := by rw [hW3]; exact hq1
      have hr0 : W3.heap[w.heap.size]? = some (.cells #[.int .i64 L, .slice (some ⟨b, o, none⟩) l.length c] 25 (0, 0)) := by rw [hW3]; exact hq0
      have hs3 : w.heap.size + 2 ≤ W3.heap.size := by rw [hW3]; show w.heap.size + 2 ≤ w2.heap.size; omega
      obtain ⟨⟨z0, z1⟩, -, -⟩ := row2B hr0
      go_wp2_with fail
      rw [← hW3]
      have HB3 := Lib.hid hb3
      have HR1 := Lib.hid hr1
      have HS3 := Lib.hid hs3
      clear hW3 x0 x1 hq0 hq1 hb2 hr0 hr1 hb3 qw qw2 hs3
      go_region_with (go_at_call 20; refine (HX.out _ (by first | exact HB3.out | exact HB3.out.drew | exact below_drewN HB3.out _) (by first | exact Nat.le_trans (Nat.le_add_right _ _) HS3.out | (simp; exact Nat.le_trans (Nat.le_add_right _ _) HS3.out))).mono ?_; rintro e w4 ⟨u, rfl, hu, hrg, b4⟩; obtain ⟨A3, c3, rfl⟩ := hu.slice_; have hc4 : Below W3.heap.size W3 w4 := (by first | exact b4 | exact ((Below.refl _ W3).drew).trans b4 | exact (below_drewN (Below.refl _ W3) _).trans b4); have hr4 := (hc4.block (w.heap.size + 1) (by have := HS3.out; omega)).trans HR1.out; obtain ⟨⟨y0, y1⟩, f0, f1⟩ := row2B hr4)
      all_goals
        have hb4 : Below w.heap.size w w4 := HB3.out.trans (hc4.mono HB3.out.size)
        have hs5 := HS3.out
        have HF := Lib.hid (cells_set (cells_set hr4 0 (.int .i64 R.2.1)) 1 (.slice A3 R.2.2.length c3))
        have HBF := Lib.hid ((hb4.setCell (p := ⟨w.heap.size + 1, 0, none⟩) (by show w.heap.size ≤ w.heap.size + 1; omega) (.int .i64 R.2.1)).setCell (p := ⟨w.heap.size + 1, 1, none⟩) (by show w.heap.size ≤ w.heap.size + 1; omega) (.slice A3 R.2.2.length c3))
        have HOF := Lib.hid (((hu.set (p := ⟨w.heap.size + 1, 0, none⟩) (by show w.heap.size + 1 < W3.heap.size; omega) (.int .i64 R.2.1)).set (p := ⟨w.heap.size + 1, 1, none⟩) (by show w.heap.size + 1 < W3.heap.size; omega) (.slice A3 R.2.2.length c3)).less (b' := w.heap.size) (by show w.heap.size ≤ W3.heap.size; omega))
        have HRG := Lib.hid hrg
        clear hu b4 hc4 hr4 y0 y1 f0 f1 hb4 hs5 HFM HX HMR HB3 HR1 HS3 hrg
        obtain ⟨RC, RL, RW⟩ := R
        try simp only at HF HBF HOF HRG ⊢
        go_wp2
        have t0 := cell_of_row _ _ 0 _ _ _ HF.out
        have t1 := cell_of_row _ _ 1 _ _ _ HF.out
        refine bodyPost_ret (v := .tuple #[.agg #[.int .i64 RL, .slice A3 RW.length c3], .int .i64 RC]) (by simp [results, Try.results28, go_sem, t0, t1]) rfl ?_
        rw [← HRE.out]
        exact ⟨_, rfl, HOF.out, HRG.out, HBF.out⟩
    · have HMR := Lib.hid (show BM.foldM L l = (2, 0, []) by rw [HM.out, hok, if_neg hin]; rfl)
      have tin : (L % 128 != 0) = true := by simp [hin]
      have hLL : 0 ≤ L ∧ L ≤ 512 := by omega
      obtain ⟨⟨y0, y1⟩, f0, f1⟩ := row2B hq1
      have HZ := Lib.hid (cells_set (cells_set hq1 0 (.int .i64 0)) 1 (.slice none 0 0))
      have HBZ := Lib.hid ((hb2.setCell (p := ⟨w.heap.size + 1, 0, none⟩) (Nat.le_succ _) (.int .i64 0)).setCell (p := ⟨w.heap.size + 1, 1, none⟩) (Nat.le_succ _) (.slice none 0 0))
      clear k3 hin hok HM
      go_wp2
      have t0 := cell_of_row _ _ 0 _ _ _ HZ.out
      have t1 := cell_of_row _ _ 1 _ _ _ HZ.out
      refine bodyPost_ret (v := .tuple #[zeroV, .int .i64 2]) (by simp [results, Try.results28, zeroV, go_sem, t0, t1]) rfl ?_
      rw [HMR.out]
      exact ⟨_, rfl, World.ownsRow_nil _ _ _ _, zero_range, HBZ.out⟩
end Go.Proofs.Ytfcnodiepdnegaa
