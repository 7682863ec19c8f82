/- The walk of BitsetSets. -/
import Derived.Test.YtfcnodiepdnegaaBitLaw2
import Derived.Deep.RegionHeld3
namespace Go.Proofs.Ytfcnodiepdnegaa
open Go.RowKit
set_option linter.unusedVariables false
set_option maxRecDepth 100000

theorem set_in {L : Int} {l : List UInt64} (h : BM.okB L l = true) (j : Nat) (hj : (j : Int) < L) : BM.setM L l (j : Int) = (0, L, BM.setW l j) := by
  unfold BM.setM
  rw [h, if_pos rfl, if_pos ⟨by omega, hj⟩]
  rfl
theorem count_in {L : Int} {l : List UInt64} (h : BM.okB L l = true) : BM.countM L l = BM.cnt (BM.bitL l) L.toNat := by
  unfold BM.countM
  rw [h]
  rfl
set_option maxHeartbeats 4000000 in
theorem BitsetSets_walk (A : Option Addr) (n c : Nat) (w : World) (hE : PEnv w) (hI : IntsArg w A n c) :
    Calls Try.prog 6 #[.slice A n c] w fun e w' => e = .returned (.bool true) ∧ Below w.heap.size w w' := by
  have HE := Lib.hid (fun W (h : Below w.heap.size w W) => hE.below h (Nat.le_refl _))
  have HE0 := Lib.hid hE
  have HI := Lib.hid hI
  clear hE hI
  go_enter Try.func6, Try.ntmps6
  go_wp2_with fail
  refine (awake9_any w HE0.out).mono ?_
  rintro e w1 ⟨rfl, b1⟩
  go_wp2_with fail
  refine (Few_any A n c w1 (Nat.le_trans HI.out.1 HI.out.2.1)).mono ?_
  rintro e w1' ⟨rfl, rfl⟩
  by_cases hn : n ≤ 400
  · have hd : decide (n ≤ 400) = true := by simp [hn]
    rw [hd]
    clear hd
    go_wp2_with fail
    refine (New_any A n c w1 (HI.out.below b1)).mono ?_
    rintro e w3 ⟨rfl, hd3, b3⟩
    generalize hg : w1.heap.size = g at *
    have HG := Lib.hid hg
    clear hg
    have hgw : w.heap.size ≤ g := by rw [← HG.out]; exact b1.size
    have bw3 : Below w.heap.size w w3 := b1.trans (b3.mono hgw)
    clear b3 b1
    go_wp2_with fail
    refine (Next_any g w3 hd3 4 (by omega) (by omega)).mono ?_
    rintro e w4 ⟨x, rfl, ⟨hx0, hx1⟩, hd4, g4⟩
    obtain ⟨m, rfl⟩ := Int.eq_ofNat_of_zero_le hx0
    have hm : m < 4 := by omega
    clear hx0 hx1
    have bw4 : Below w.heap.size w w4 := bw3.trans (below_of_grown g4 hgw bw3.size)
    clear bw3 hd3 g4
    obtain ⟨q, hq⟩ : ∃ q : Int, 64 * (1 + (m : Int)) = q := ⟨_, rfl⟩
    obtain ⟨N, hN⟩ : ∃ N : Nat, N = 1 + m := ⟨_, rfl⟩
    have hqN : 64 * (N : Int) = q := by omega
    have HQN := Lib.hid hqN
    have hNr : 1 ≤ N ∧ N ≤ 8 := by omega
    have hq0 : 64 ≤ q ∧ q ≤ 256 := by omega
    have HB := Bits_any g w4 hd4 N (by omega)
    rw [hqN] at HB
    have HB4 := Lib.hid HB
    have hgl := hd4.lt
    clear hqN hN HB hd4
    go_wp2_with fail
    refine HB4.out.mono ?_
    rintro e w5 ⟨u5, l, rfl, hl, ho5, hd5, g5⟩
    obtain ⟨A5, c5, rfl⟩ := ho5.slice_
    have bw5 : Below w.heap.size w w5 := bw4.trans (below_of_grown g5 hgw bw4.size)
    have hok := ok_of hl hNr.1 hNr.2
    rw [HQN.out] at hok
    have hrg : InRange q := by unfold InRange; omega
    have hI5 : IsBits w5.heap.size w5 (.agg #[.int .i64 q, .slice A5 l.length c5]) q l := ho5.bits hrg
    have HLN := Lib.hid hl
    have hg5 := g5.size
    have HO5 := Lib.hid ho5
    clear ho5 g5 bw4 HB4 hl
    obtain ⟨W5, hW5⟩ : ∃ W, W = w5.alloc (.cells #[.int .i64 q, .slice A5 l.length c5] 25) := ⟨_, rfl⟩
    have hx5 : W5.heap[w5.heap.size]? = some (.cells #[.int .i64 q, .slice A5 l.length c5] 25 (0, 0)) := by rw [hW5]; exact heap_alloc_new w5 _
    have hsW5 : W5.heap.size = w5.heap.size + 1 := by rw [hW5]; simp
    have bW5 : Below w.heap.size w W5 := by rw [hW5]; exact same_al bw5
    have hIW : IsBits w5.heap.size W5 (.agg #[.int .i64 q, .slice A5 l.length c5]) q l := by rw [hW5]; exact hI5.keep ((Below.refl _ w5).alloc (Nat.le_refl _) _)
    have hdW : Deck g W5 := by rw [hW5]; exact hd5.alloc _
    have HOW := Lib.hid (show OwnsW w4.heap.size W5 (.slice A5 l.length c5) l by rw [hW5]; exact HO5.out.keep ((Below.refl _ w5).alloc (Nat.le_refl _) _))
    have HWE := Lib.hid hW5
    clear hW5 hI5 hd5 bw5
    go_wp2_with fail
    rw [← HWE.out]
    clear HWE
    generalize w5.heap.size = X at *
    refine (Next_any g W5 hdW q (by omega) (by omega)).mono ?_
    rintro e w6 ⟨x, rfl, ⟨hx0, hx1⟩, hd6, g6⟩
    obtain ⟨j, rfl⟩ := Int.eq_ofNat_of_zero_le hx0
    have hj : (j : Int) < q := hx1
    clear hx0 hx1
    have bw6 : Below w.heap.size w w6 := bW5.trans (below_of_grown g6 hgw bW5.size)
    have hx6 := (g6.block X (by omega) (fun e => by injection e; omega)).trans hx5
    have hs6 := g6.size
    have hI6 : IsBits w6.heap.size w6 (.agg #[.int .i64 q, .slice A5 l.length c5]) q l := by
      exact OwnsW.bits (base := w4.heap.size) (owns_grown HOW.out g6 (fun q hq e => by injection hq with hq; subst hq; have := (owns_at HOW.out e).1; omega)) hrg
    obtain ⟨l2, hl2⟩ : ∃ l2, l2 = BM.setW l j := ⟨_, rfl⟩
    have HL2 := Lib.hid hl2
    have hok2 : BM.okB q l2 = true := by
      have := hok
      rw [BM.okB_iff] at this ⊢
      rw [hl2, BM.setW_len]
      exact this
    have hset1 : BM.setM q l (j : Int) = (0, q, l2) := by rw [set_in hok j hj, hl2]
    have hset2 : BM.setM q l2 (j : Int) = (0, q, l2) := by
      rw [set_in hok2 j hj, hl2, BM.setW_again l j (by have := hok; rw [BM.okB_iff] at this; omega)]
    have C7 := pSet_any w6.heap.size (.agg #[.int .i64 q, .slice A5 l.length c5]) q l (j : Int) w6 (HE.out _ bw6) hI6 (Nat.le_refl _)
    rw [hset1] at C7
    have HC7 := Lib.hid C7
    have HOK := Lib.hid hok
    have HOK2 := Lib.hid hok2
    clear C7 hset1 hl2 g6 hd6 hdW hIW hok hok2
    obtain ⟨⟨x0, x1⟩, -⟩ := row2 hx6
    have hX6 : X < w6.heap.size := by omega
    go_wp2_with fail
    refine HC7.out.mono ?_
    rintro e w7 ⟨u7, rfl, ho7, -, b7⟩
    obtain ⟨A6, c6, rfl⟩ : ∃ A c, u7 = .slice A l2.length c := ho7.slice_
    have hI7 : IsBits w7.heap.size w7 (.agg #[.int .i64 q, .slice A6 l2.length c6]) q l2 := ho7.bits hrg
    have hIa7 := (hI6.keep b7).more b7.size
    have hx7 := (b7.block X hX6).trans hx6
    have bw7 := same_of bw6 b7
    have hs7 := b7.size
    clear x0 x1 ho7 b7 hI6 hx6 bw6 HC7 bW5 hx5
    obtain ⟨W7, hW7⟩ : ∃ W, W = w7.alloc (.cells #[.int .i64 q, .slice A6 l2.length c6] 25) := ⟨_, rfl⟩
    have hxX : W7.heap[X]? = some (.cells #[.int .i64 q, .slice A5 l.length c5] 25 (0, 0)) := by rw [hW7]; exact (Below.heap_alloc w7 _ X (by omega)).trans hx7
    have hxY : W7.heap[w7.heap.size]? = some (.cells #[.int .i64 q, .slice A6 l2.length c6] 25 (0, 0)) := by rw [hW7]; exact heap_alloc_new w7 _
    have hsW7 : W7.heap.size = w7.heap.size + 1 := by rw [hW7]; simp
    have bW7 : Below w.heap.size w W7 := by rw [hW7]; exact same_al bw7
    have hIa : IsBits w7.heap.size W7 (.agg #[.int .i64 q, .slice A5 l.length c5]) q l := by rw [hW7]; exact hIa7.keep ((Below.refl _ w7).alloc (Nat.le_refl _) _)
    have hIb : IsBits w7.heap.size W7 (.agg #[.int .i64 q, .slice A6 l2.length c6]) q l2 := by rw [hW7]; exact hI7.keep ((Below.refl _ w7).alloc (Nat.le_refl _) _)
    have HWE := Lib.hid hW7
    clear hW7 hIa7 hI7 hx7 bw7
    go_wp2_with fail
    rw [← HWE.out]
    clear HWE
    generalize w7.heap.size = Y at *
    have C8 := pSet_any Y (.agg #[.int .i64 q, .slice A6 l2.length c6]) q l2 (j : Int) W7 (HE.out _ bW7) hIb (by omega)
    rw [hset2] at C8
    have HC8 := Lib.hid C8
    clear C8 hset2
    refine HC8.out.mono ?_
    rintro e w8 ⟨u8, rfl, ho8, -, b8⟩
    obtain ⟨A7, c7, rfl⟩ : ∃ A c, u8 = .slice A l2.length c := ho8.slice_
    have hs8 := b8.size
    have hI8 : IsBits w8.heap.size w8 (.agg #[.int .i64 q, .slice A7 l2.length c7]) q l2 := ho8.bits hrg
    have hIa8 := (hIa.keep (b8.mono (by omega))).more (show Y ≤ w8.heap.size by omega)
    have hIb8 := (hIb.keep (b8.mono (by omega))).more (show Y ≤ w8.heap.size by omega)
    have hxX8 := (b8.block X (by omega)).trans hxX
    have hxY8 := (b8.block Y (by omega)).trans hxY
    have bw8 := same_of bW7 b8
    obtain ⟨W8, hW8⟩ : ∃ W, W = w8.alloc (.cells #[.int .i64 q, .slice A7 l2.length c7] 25) := ⟨_, rfl⟩
    have hqX : W8.heap[X]? = some (.cells #[.int .i64 q, .slice A5 l.length c5] 25 (0, 0)) := by rw [hW8]; exact (Below.heap_alloc w8 _ X (by omega)).trans hxX8
    have hqY : W8.heap[Y]? = some (.cells #[.int .i64 q, .slice A6 l2.length c6] 25 (0, 0)) := by rw [hW8]; exact (Below.heap_alloc w8 _ Y (by omega)).trans hxY8
    have hqZ : W8.heap[w8.heap.size]? = some (.cells #[.int .i64 q, .slice A7 l2.length c7] 25 (0, 0)) := by rw [hW8]; exact heap_alloc_new w8 _
    have hsW8 : W8.heap.size = w8.heap.size + 1 := by rw [hW8]; simp
    have bW8 : Below w.heap.size w W8 := by rw [hW8]; exact same_al bw8
    have hJa : IsBits w8.heap.size W8 (.agg #[.int .i64 q, .slice A5 l.length c5]) q l := by rw [hW8]; exact hIa8.keep ((Below.refl _ w8).alloc (Nat.le_refl _) _)
    have hJb : IsBits w8.heap.size W8 (.agg #[.int .i64 q, .slice A6 l2.length c6]) q l2 := by rw [hW8]; exact hIb8.keep ((Below.refl _ w8).alloc (Nat.le_refl _) _)
    have hJc : IsBits w8.heap.size W8 (.agg #[.int .i64 q, .slice A7 l2.length c7]) q l2 := by rw [hW8]; exact hI8.keep ((Below.refl _ w8).alloc (Nat.le_refl _) _)
    have HWE := Lib.hid hW8
    clear hW8 hIa8 hIb8 hI8 hxX8 hxY8 bw8 ho8 b8 HC8 hIa hIb bW7 hxX hxY
    go_wp2_with fail
    rw [← HWE.out]
    clear HWE
    generalize w8.heap.size = Z at *
    have hX8 : X < W8.heap.size := by omega
    have hY8 : Y < W8.heap.size := by omega
    have hZ8 : Z < W8.heap.size := by omega
    have HCR := Lib.hid (fun W (h : Below W8.heap.size W8 W) => show (((W.cell? ⟨X, 0, none⟩ = some (.int .i64 q) ∧ W.cell? ⟨X, 1, none⟩ = some (.slice A5 l.length c5)) ∧ (W.cell? ⟨Y, 0, none⟩ = some (.int .i64 q) ∧ W.cell? ⟨Y, 1, none⟩ = some (.slice A6 l2.length c6)) ∧ (W.cell? ⟨Z, 0, none⟩ = some (.int .i64 q) ∧ W.cell? ⟨Z, 1, none⟩ = some (.slice A7 l2.length c7)))) from ⟨(row2 ((h.block X hX8).trans hqX)).1, (row2 ((h.block Y hY8).trans hqY)).1, (row2 ((h.block Z hZ8).trans hqZ)).1⟩)
    have HBR := Lib.hid (Below.refl W8.heap.size W8)
    have HBW := Lib.hid bW8
    have HKS := Lib.hid (fun W (h : Below W8.heap.size W8 W) => same_self Z (.agg #[.int .i64 q, .slice A6 l2.length c6]) (.agg #[.int .i64 q, .slice A7 l2.length c7]) q l2 W (hJb.keep (h.mono (by omega))) (hJc.keep (h.mono (by omega))) (by have := h.size; omega))
    have HKH := Lib.hid (fun i W (h : Below W8.heap.size W8 W) => pHas_any Z (.agg #[.int .i64 q, .slice A6 l2.length c6]) q l2 i W (HE.out _ (same_of HBW.out h)) (hJb.keep (h.mono (by omega))) (by have := h.size; omega))
    have HKA := Lib.hid (fun i W (h : Below W8.heap.size W8 W) => pHas_any Z (.agg #[.int .i64 q, .slice A5 l.length c5]) q l i W (HE.out _ (same_of HBW.out h)) (hJa.keep (h.mono (by omega))) (by have := h.size; omega))
    have HKB := Lib.hid (fun W (h : Below W8.heap.size W8 W) => pCount_any Z (.agg #[.int .i64 q, .slice A6 l2.length c6]) q l2 W (HE.out _ (same_of HBW.out h)) (hJb.keep (h.mono (by omega))) (by have := h.size; omega))
    have HKC := Lib.hid (fun W (h : Below W8.heap.size W8 W) => pCount_any Z (.agg #[.int .i64 q, .slice A5 l.length c5]) q l W (HE.out _ (same_of HBW.out h)) (hJa.keep (h.mono (by omega))) (by have := h.size; omega))
    have hlen : 64 * (l.length : Int) = q := by
      have := HOK.out
      rw [BM.okB_iff] at this
      omega
    have HBIT := Lib.hid (fun k => show BM.bitL l2 k = (BM.bitL l k || decide (j = k)) by rw [HL2.out, BM.bitL_set l j k (by omega)])
    have hjbit : BM.hasM q l2 (j : Int) = true := by
      rw [has_in HOK2.out j hj, HBIT.out j, decide_eq_true rfl, Bool.or_true]
    have HJB := Lib.hid hjbit
    have HCA := Lib.hid (count_in HOK.out)
    have HCB := Lib.hid (count_in HOK2.out)
    have HLE := Lib.hid (show BM.cnt (BM.bitL l) q.toNat ≤ BM.cnt (BM.bitL l2) q.toNat from BM.cnt_le _ _ _ (fun i _ hi => by rw [HBIT.out i, hi, Bool.true_or]))
    have HBD := Lib.hid (BM.cnt_bound (BM.bitL l2) q.toNat)
    clear hJa hJb hJc hqX hqY hqZ hlen hjbit
    have H1 := Lib.hid (fun W h => HKH.out (j : Int) W h)
    rw [HJB.out] at H1
    have H2 := HKB
    rw [HCB.out] at H2
    have H3 := HKC
    rw [HCA.out] at H3
    have hle := HLE.out
    have hbd := HBD.out
    generalize hca : BM.cnt (BM.bitL l) q.toNat = ca at *
    generalize hcb : BM.cnt (BM.bitL l2) q.toNat = cb at *
    have HCBQ := Lib.hid hcb
    clear hca hcb
    have xx0 : ∀ x : Grown W8, x.val.cell? ⟨X, 0, none⟩ = some (.int .i64 q) := fun x => (HCR.out x.val x.property).1.1
    have yy0 : ∀ x : Grown W8, x.val.cell? ⟨X, 1, none⟩ = some (.slice A5 l.length c5) := fun x => (HCR.out x.val x.property).1.2
    have xx1 : ∀ x : Grown W8, x.val.cell? ⟨Y, 0, none⟩ = some (.int .i64 q) := fun x => (HCR.out x.val x.property).2.1.1
    have yy1 : ∀ x : Grown W8, x.val.cell? ⟨Y, 1, none⟩ = some (.slice A6 l2.length c6) := fun x => (HCR.out x.val x.property).2.1.2
    have xx2 : ∀ x : Grown W8, x.val.cell? ⟨Z, 0, none⟩ = some (.int .i64 q) := fun x => (HCR.out x.val x.property).2.2.1
    have yy2 : ∀ x : Grown W8, x.val.cell? ⟨Z, 1, none⟩ = some (.slice A7 l2.length c7) := fun x => (HCR.out x.val x.property).2.2.2
    refine wp_region_below (by kernel_rfl) (by kernel_rfl) ?_
    repeat (go_big_quiet_step (fail))
    go_big_quiet_step ((go_at_call 15; exact grown_call (HKS.out _ (Subtype.property _))))
    repeat (go_big_quiet_step (fail))
    go_big_quiet_step ((go_at_call 26; exact grown_call (H1.out _ (Subtype.property _))))
    repeat (go_big_quiet_step (fail))
    go_big_quiet_step ((go_at_call 34; exact grown_call (H2.out _ (Subtype.property _))))
    repeat (go_big_quiet_step (fail))
    go_big_quiet_step ((go_at_call 34; exact grown_call (H3.out _ (Subtype.property _))))
    repeat (go_big_quiet_step (fail))
    refine wpQuiet_nil ?_
    intro u hC
    have hrl := grown_out hC
    clear hC xx0 yy0 xx1 yy1 xx2 yy2
    generalize hbv : decide (cb < ca) = bv at *
    have hbf : bv = false := by rw [← hbv]; simp; omega
    subst hbf
    clear H1 H2 H3 HKS HKC hle hbd hbv
    have HC8 := HCR
    go_wp2
    go_loopw [11, 12] (fun tv kv wr => ∃ k : Nat, (k : Int) ≤ q ∧ kv = .int .i64 k ∧ tv = .int .i64 (BM.cnt (BM.bitL l2) k : Int) ∧ Below W8.heap.size W8 wr) (fun _ kv _ => 300 - (intOf kv).toNat)
    case atStart => exact ⟨0, by omega, rfl, rfl, hrl⟩
    case round =>
      obtain ⟨k, hk, rfl, rfl, hbr⟩ := hrel
      have HBR := Lib.hid hbr
      have hsr := hbr.size
      obtain ⟨⟨x0, x1⟩, ⟨y0, y1⟩, z0, z1⟩ := HC8.out _ hbr
      have hcn := BM.cnt_bound (BM.bitL l2) k
      by_cases hlt : (k : Int) < q
      · have t0 : decide ((k : Int) < q) = true := by simp [hlt]
        have HCN := Lib.hid (show BM.cnt (BM.bitL l2) (k + 1) = BM.cnt (BM.bitL l2) k + (BM.bitL l2 k).toNat from rfl)
        have K2 := Lib.hid (fun W h => HKH.out (k : Int) W h)
        rw [has_in HOK2.out k hlt] at K2
        generalize BM.cnt (BM.bitL l2) k = tk at *
        have HCR := Lib.hid (fun W (h : Below wr.heap.size wr W) => HC8.out W (same_of HBR.out h))
        clear hbr
        by_cases hkj : k = j
        · subst hkj
          have hb2 : BM.bitL l2 k = true := by rw [HBIT.out k, decide_eq_true rfl, Bool.or_true]
          rw [hb2] at K2 HCN
          clear hb2
          go_wp2_with fail
          go_quiet (fail)
          go_wp2_with fail
          refine (K2.out _ (below_drewN HBR.out _)).mono ?_
          rintro e w9 ⟨rfl, b9⟩
          have hbn := Lib.hid (show Below W8.heap.size W8 w9 from same_of (below_drewN HBR.out _) b9)
          go_wp2
          exact ⟨⟨k + 1, by omega, by go_num, by rw [HCN.out, Bool.toNat_true]; go_num, hbn.out⟩, by simp [intOf]; omega⟩
        · have hkn : ((k : Int) == (j : Int)) = false := by
            simp only [beq_eq_false_iff_ne, ne_eq]
            omega
          have hkn2 : ((k : Int) != (j : Int)) = true := by rw [bne, hkn]; rfl
          have K1 := Lib.hid (fun W h => HKA.out (k : Int) W h)
          rw [has_in HOK.out k hlt] at K1
          have hbb : BM.bitL l2 k = BM.bitL l k := by rw [HBIT.out k, decide_eq_false (fun e => hkj e.symm), Bool.or_false]
          rw [hbb] at K2 HCN
          generalize BM.bitL l k = p at *
          clear hbb
          have xx0 : ∀ x : Grown wr, x.val.cell? ⟨X, 0, none⟩ = some (.int .i64 q) := fun x => (HCR.out x.val x.property).1.1
          have yy0 : ∀ x : Grown wr, x.val.cell? ⟨X, 1, none⟩ = some (.slice A5 l.length c5) := fun x => (HCR.out x.val x.property).1.2
          have xx1 : ∀ x : Grown wr, x.val.cell? ⟨Y, 0, none⟩ = some (.int .i64 q) := fun x => (HCR.out x.val x.property).2.1.1
          have yy1 : ∀ x : Grown wr, x.val.cell? ⟨Y, 1, none⟩ = some (.slice A6 l2.length c6) := fun x => (HCR.out x.val x.property).2.1.2
          have xx2 : ∀ x : Grown wr, x.val.cell? ⟨Z, 0, none⟩ = some (.int .i64 q) := fun x => (HCR.out x.val x.property).2.2.1
          have yy2 : ∀ x : Grown wr, x.val.cell? ⟨Z, 1, none⟩ = some (.slice A7 l2.length c7) := fun x => (HCR.out x.val x.property).2.2.2
          go_wp2_with fail
          refine wp_region_below (by kernel_rfl) (by kernel_rfl) ?_
          repeat (go_big_quiet_step (fail))
          go_big_quiet_step ((go_at_call 26; exact grown_call (K1.out _ (same_of HBR.out (Subtype.property _)))))
          repeat (go_big_quiet_step (fail))
          go_big_quiet_step ((go_at_call 26; exact grown_call (K2.out _ (same_of HBR.out (Subtype.property _)))))
          repeat (go_big_quiet_step (fail))
          refine wpQuiet_nil ?_
          intro u hC
          have hrl2 := grown_out hC
          clear hC xx0 yy0 xx1 yy1 xx2 yy2
          cases p
          all_goals
            obtain ⟨⟨v0, v1⟩, ⟨r0, r1⟩, s0, s1⟩ := HCR.out _ hrl2
            go_wp2_with fail
            refine (K2.out _ (same_of HBR.out hrl2)).mono ?_
            rintro e w9 ⟨rfl, b9⟩
            have hbn := Lib.hid (show Below W8.heap.size W8 w9 from same_of (same_of HBR.out hrl2) b9)
            clear v0 v1 r0 r1 s0 s1
            go_wp2
            exact ⟨⟨k + 1, by omega, by go_num, by rw [HCN.out]; simp, hbn.out⟩, by simp [intOf]; omega⟩
      · obtain rfl : q = (k : Int) := by omega
        have hkq : BM.cnt (BM.bitL l2) k = cb := by
          have := HCBQ.out
          rw [Int.toNat_natCast] at this
          exact this
        rw [hkq]
        clear hkq hcn
        have KB := Lib.hid (fun W h => HKB.out W h)
        rw [HCB.out] at KB
        go_wp2_with fail
        refine (KB.out _ hbr).mono ?_
        rintro e w9 ⟨rfl, b9⟩
        have hbn := same_of HBW.out (same_of hbr b9)
        go_wp2
        go_ret
        exact ⟨by simp, hbn⟩
  · have hd : decide (n ≤ 400) = false := by simp [hn]
    rw [hd]
    clear hd
    go_wp2_with fail
    refine (awake9_any w1 (HE.out _ b1)).mono ?_
    rintro e w2 ⟨rfl, b2⟩
    go_wp2
    go_ret
    exact ⟨rfl, same_of b1 b2⟩
end Go.Proofs.Ytfcnodiepdnegaa
