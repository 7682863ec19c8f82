/- The reference's Has, Count, Copy, Set. -/
import Derived.Test.YtfcnodiepdnegaaBitVal
import Derived.BigQuiet
import Derived.BigRegion
namespace Go.Proofs.Ytfcnodiepdnegaa
open Go.RowKit
set_option linter.unusedVariables false
set_option maxRecDepth 100000

theorem has_bit (x : UInt64) (j : Nat) : (bits .and .u64 (n64 x / 2 ^ j) 1 == 1) = BM.bitW x j := by
  have e : (2 : Int) ^ j = ((2 ^ j : Nat) : Int) := by rw [Int.natCast_pow]; rfl
  rw [e]
  unfold n64 BM.bitW
  rw [← Int.natCast_ediv, show (1 : Int) = ((1 : Nat) : Int) from rfl, u64_and_nat _ _ (Nat.lt_of_le_of_lt (Nat.div_le_self _ _) x.toNat_lt) (by decide), Nat.testBit_eq_decide_div_mod_eq, beq_dec, Nat.and_one_is_mod]
  simp only [decide_eq_decide]
  omega
theorem okB_lt {L : Int} {l : List UInt64} (h : BM.okB L l = true) {m : Nat} (hm : (m : Int) < L) : m / 64 < l.length := by
  rw [BM.okB_iff] at h
  omega
set_option maxHeartbeats 1000000 in
theorem rHas_any (B : Nat) (v : Value) (L : Int) (l : List UInt64) (i : Int) (w : World) (h : IsBits B w v L l) (hB : B ≤ w.heap.size) :
    Calls Try.prog 27 #[v, .int .i64 i] w fun e w' => e = .returned (.bool (BM.hasM L l i)) ∧ Below w.heap.size w w' := by
  obtain ⟨A, c, rfl, HI, h1, h2, hL, HC⟩ := h.open_
  clear h
  have hb : Below w.heap.size w (w.alloc (.cells #[.int .i64 L, .slice A l.length c] 25)) := (Below.refl _ w).alloc (Nat.le_refl _) _
  have HV := Lib.hid (fun W h => rValid_any B (.agg #[.int .i64 L, .slice A l.length c]) L l W h)
  have HK := Lib.hid (HI.out.keep (hb.mono hB))
  have HO := Lib.hid (show BM.hasM L l i = (BM.okB L l && (decide (0 ≤ i) && (decide (i < L) && BM.bitL l i.toNat))) from rfl)
  go_enter Try.func27, Try.ntmps27
  go_wp2_with fail
  obtain ⟨W1, hW1⟩ : ∃ W, W = w.alloc (.cells #[.int .i64 L, .slice A l.length c] 25) := ⟨_, rfl⟩
  have z0 : W1.cell? ⟨w.heap.size, 0, none⟩ = some (.int .i64 L) := by rw [hW1]; exact new_cellW w _ _ 0 _ rfl
  have z1 : W1.cell? ⟨w.heap.size, 1, none⟩ = some (.slice A l.length c) := by rw [hW1]; exact new_cellW w _ _ 1 _ rfl
  rw [← hW1] at hb HK ⊢
  have hs1 : W1.heap.size = w.heap.size + 1 := by rw [hW1]; simp
  clear hW1
  refine (HV.out _ HK.out).mono ?_
  rintro e w2 ⟨rfl, b2⟩
  have x0 := (b2.cell (p := ⟨w.heap.size, 0, none⟩) (by show w.heap.size < W1.heap.size; omega)).trans z0
  have x1 := (b2.cell (p := ⟨w.heap.size, 1, none⟩) (by show w.heap.size < W1.heap.size; omega)).trans z1
  have hb2 := same_of hb b2
  clear z0 z1 hb
  cases hok : BM.okB L l
  · go_wp2
    go_ret
    exact ⟨ret_bool (by rw [HO.out, hok]; rfl), hb2⟩
  · by_cases hi0 : 0 ≤ i
    · by_cases hi1 : i < L
      · obtain ⟨m, rfl⟩ := Int.eq_ofNat_of_zero_le hi0
        have hml := okB_lt hok hi1
        obtain ⟨b, o, rfl, hbB, c0⟩ := HC.out (m / 64) hml
        have c1 := (hb2.cell (p := ⟨b, o + m / 64, none⟩) (by show b < w.heap.size; omega)).trans c0
        have HR := Lib.hid (show BM.bitW l[m / 64] (m % 64) = BM.hasM L l (m : Int) by
          rw [HO.out, hok, decide_eq_true hi0, decide_eq_true hi1]
          simp only [Bool.true_and, Int.toNat_natCast]
          unfold BM.bitL
          rw [List.getD_eq_getElem?_getD, List.getElem?_eq_getElem hml]
          rfl)
        have hbit := has_bit l[m / 64] (m % 64)
        rw [HR.out] at hbit
        clear c0
        go_wp2
        go_ret
        exact ⟨rfl, hb2⟩
      · go_wp2
        go_ret
        exact ⟨ret_bool (by rw [HO.out, hok, decide_eq_true hi0, decide_eq_false (by omega : ¬ i < L)]; rfl), hb2⟩
    · go_wp2
      go_ret
      exact ⟨ret_bool (by rw [HO.out, hok, decide_eq_false (by omega : ¬ 0 ≤ i)]; rfl), hb2⟩
set_option maxHeartbeats 1000000 in
theorem rCount_any (B : Nat) (v : Value) (L : Int) (l : List UInt64) (w : World) (h : IsBits B w v L l) (hB : B ≤ w.heap.size) :
    Calls Try.prog 35 #[v] w fun e w' => e = .returned (.int .i64 (BM.countM L l : Int)) ∧ Below w.heap.size w w' := by
  obtain ⟨A, c, rfl, HI, h1, h2, hL, -⟩ := h.open_
  clear h
  have HV := Lib.hid (fun W h => rValid_any B (.agg #[.int .i64 L, .slice A l.length c]) L l W h)
  have HH := Lib.hid (fun i W h hB => rHas_any B (.agg #[.int .i64 L, .slice A l.length c]) L l i W h hB)
  have hb : Below w.heap.size w (w.alloc (.cells #[.int .i64 L, .slice A l.length c] 25)) := (Below.refl _ w).alloc (Nat.le_refl _) _
  have hrow := heap_alloc_new w (.cells #[.int .i64 L, .slice A l.length c] 25)
  have hs1 : w.heap.size + 1 = (w.alloc (.cells #[.int .i64 L, .slice A l.length c] 25)).heap.size := by simp
  go_enter Try.func35, Try.ntmps35
  go_wp2_with fail
  generalize w.alloc (.cells #[.int .i64 L, .slice A l.length c] 25) = W1 at *
  have HROW := Lib.hid hrow
  have HB := Lib.hid hb
  clear hrow hb
  go_loopw [3, 4] (fun nv iv wr => ∃ k : Nat, iv = .int .i64 k ∧ nv = .int .i64 (BM.cnt (BM.bitL l) k : Int) ∧ (k = 0 ∨ (BM.okB L l = true ∧ (k : Int) ≤ L)) ∧ Below W1.heap.size W1 wr) (fun _ iv _ => 600 - (intOf iv).toNat)
  case atStart => exact ⟨0, rfl, rfl, .inl rfl, Below.refl _ _⟩
  case round =>
    obtain ⟨k, rfl, rfl, hk, hbr⟩ := hrel
    have hbw := same_of HB.out hbr
    have hr := (hbr.block w.heap.size (by omega)).trans HROW.out
    have x0 : wr.cell? ⟨w.heap.size, 0, none⟩ = some (.int .i64 L) := by rw [cell_of_row _ _ _ _ _ _ hr]; rfl
    have x1 : wr.cell? ⟨w.heap.size, 1, none⟩ = some (.slice A l.length c) := by rw [cell_of_row _ _ _ _ _ _ hr]; rfl
    have hHI := HI.out.keep (hbw.mono hB)
    have hsr := hbw.size
    have HCT := Lib.hid (show BM.countM L l = if BM.okB L l then BM.cnt (BM.bitL l) L.toNat else 0 from rfl)
    go_wp2_with fail
    refine (HV.out _ hHI).mono ?_
    rintro e w2 ⟨rfl, b2⟩
    have hr2 := (b2.block w.heap.size (World.block_lt_of_cell? _ _ x0)).trans hr
    have y0 : w2.cell? ⟨w.heap.size, 0, none⟩ = some (.int .i64 L) := by rw [cell_of_row _ _ _ _ _ _ hr2]; rfl
    have y1 : w2.cell? ⟨w.heap.size, 1, none⟩ = some (.slice A l.length c) := by rw [cell_of_row _ _ _ _ _ _ hr2]; rfl
    have hbw2 := same_of hbw b2
    have hbr2 := same_of hbr b2
    have hHI2 := HI.out.keep (hbw2.mono hB)
    have hs2 := hbw2.size
    clear x0 x1 hr hHI
    cases hok : BM.okB L l
    · obtain rfl : k = 0 := by
        rcases hk with hk | ⟨hk, _⟩
        · exact hk
        · rw [hok] at hk; cases hk
      go_wp2
      go_ret
      exact ⟨ret_int (by rw [HCT.out, hok]; rfl), hbw2⟩
    · have hLr := hok
      rw [BM.okB_iff] at hLr
      have hkL : (k : Int) ≤ L := by
        rcases hk with rfl | ⟨_, hk⟩
        · omega
        · exact hk
      have hL5 : L ≤ 512 := by omega
      clear hLr
      by_cases hlt : (k : Int) < L
      · have hcn := BM.cnt_bound (BM.bitL l) k
        have HHI := Lib.hid (show BM.hasM L l (k : Int) = BM.bitL l k by
          unfold BM.hasM
          rw [hok, decide_eq_true (by omega : (0 : Int) ≤ k), decide_eq_true hlt]
          simp)
        have HCN := Lib.hid (show BM.cnt (BM.bitL l) (k + 1) = BM.cnt (BM.bitL l) k + (BM.bitL l k).toNat from rfl)
        have HK := Lib.hid hok
        clear hk hok
        go_wp2_with fail
        refine (HH.out k _ hHI2 (by omega)).mono ?_
        rintro e w3 ⟨rfl, b3⟩
        rw [HHI.out]
        have hbr3 := same_of hbr2 b3
        clear y0 y1 hr2 hHI2 b2 b3 hbr hbw
        generalize BM.cnt (BM.bitL l) k = q at *
        cases hbit : BM.bitL l k
        · rw [hbit] at HCN
          go_wp2
          exact ⟨⟨k + 1, by go_num, by rw [HCN.out, Bool.toNat_false, Nat.add_zero], .inr ⟨HK.out, by omega⟩, hbr3⟩, by simp [intOf]; omega⟩
        · rw [hbit] at HCN
          go_wp2
          exact ⟨⟨k + 1, by go_num, by rw [HCN.out, Bool.toNat_true]; go_num, .inr ⟨HK.out, by omega⟩, hbr3⟩, by simp [intOf]; omega⟩
      · obtain rfl : L = (k : Int) := by omega
        have HK := Lib.hid hok
        clear hk
        go_wp2
        go_ret
        exact ⟨ret_int (by rw [HCT.out, HK.out]; simp), hbw2⟩
end Go.Proofs.Ytfcnodiepdnegaa
