/- The walk of BitsetExact. -/
import Derived.Test.YtfcnodiepdnegaaBitLaw4
import Derived.Test.YtfcnodiepdnegaaBitP3
namespace Go.Proofs.Ytfcnodiepdnegaa
open Go.RowKit
set_option linter.unusedVariables false
set_option maxRecDepth 100000

/-- What stands beside a deck's own block stands. -/
def Kept (g : Nat) (W0 W : World) : Prop := (∀ b, b < W0.heap.size → b ≠ g → W.heap[b]? = W0.heap[b]?) ∧ W0.heap.size ≤ W.heap.size ∧ Deck g W
theorem Kept.below {g : Nat} {W0 W W' : World} (h : Kept g W0 W) (b : Below W.heap.size W W') : Kept g W0 W' :=
  ⟨fun k hk hg => (b.block k (Nat.lt_of_lt_of_le hk h.2.1)).trans (h.1 k hk hg), Nat.le_trans h.2.1 b.size, h.2.2.below b h.2.2.lt⟩
theorem Kept.grown {g : Nat} {W0 W W' : World} (h : Kept g W0 W) (b : W.grownBy W' (some g)) (hd : Deck g W') : Kept g W0 W' :=
  ⟨fun k hk hg => (b.block k (Nat.lt_of_lt_of_le hk h.2.1) (fun e => hg (by cases e; rfl))).trans (h.1 k hk hg), Nat.le_trans h.2.1 b.size, hd⟩
theorem Kept.owns {g base : Nat} {W0 W : World} {v : Value} {l : List UInt64} (h : Kept g W0 W) (ho : OwnsW base W0 v l) (hg : g < base) : OwnsW base W v l := by
  refine ⟨ho.1, ?_⟩
  rcases ho.2 with h2 | ⟨b, cap, cur, rfl, hbg, hh, hrest⟩
  · exact .inl h2
  · exact .inr ⟨b, cap, cur, rfl, hbg, (h.1 b (Array.getElem?_eq_some_iff.1 hh).1 (by omega)).trans hh, hrest⟩
theorem row_ints {w : World} {b : Nat} {T : TypeId} {ns : List Int} (h : w.heap[b]? = some (.cells (ns.map (Value.int .i64)).toArray T (0, 0))) (k : Nat) (hk : k < ns.length) : w.cell? ⟨b, k, none⟩ = some (.int .i64 ns[k]) := by
  rw [cell_of_row _ _ _ _ _ _ h]
  simp [hk]
theorem row_texts {w : World} {b : Nat} {T : TypeId} {ts : List ByteArray} (h : w.heap[b]? = some (.cells (ts.map Value.string).toArray T (0, 0))) (k : Nat) (hk : k < ts.length) : w.cell? ⟨b, k, none⟩ = some (.string ts[k]) := by
  rw [cell_of_row _ _ _ _ _ _ h]
  simp [hk]
theorem via_three {F R : World → Int → Prop} {q : Prop} (h : Hid (∀ w z, F w z → R w z) → q) (hp : ∀ w z, F w z → R w z) : q := h (Lib.hid hp)
theorem hexM_form (L : Int) (l : List UInt64) : ∃ s c, hexM L l = .tuple #[.string s, .int .i64 c] ∧ s.size ≤ 200 := by
  unfold hexM
  split
  · rename_i h
    refine ⟨_, _, rfl, ?_⟩
    rw [hexB_size]
    rw [BM.okB_iff] at h
    omega
  · exact ⟨_, _, rfl, by decide⟩
set_option maxHeartbeats 4000000 in
theorem BitsetExact_walk (A : Option Addr) (n c : Nat) (v1 v2 : Value) (L1 L2 : Int) (l1 l2 : List UInt64) (i : Int) (s : ByteArray) (w : World) (hE : PEnv w) (hI : IntsArg w A n c) (hB1 : IsBits w.heap.size w v1 L1 l1) (hB2 : IsBits w.heap.size w v2 L2 l2) (hi : InRange i) (hs : s.size ≤ maxLen) :
    Calls Try.prog 3 #[.slice A n c, v1, v2, .int .i64 i, .string s] w fun e w' => e = .returned (.bool true) ∧ Below w.heap.size w w' := by
  obtain ⟨A1, c1, rfl, HB1, -, -, hL1, -⟩ := hB1.open_
  obtain ⟨A2, c2, rfl, HB2, -, -, hL2, -⟩ := hB2.open_
  have HE := Lib.hid (fun W (h : Below w.heap.size w W) => hE.below h (Nat.le_refl _))
  have HI := Lib.hid hI
  have HR1 := Lib.hid hL1
  have HR2 := Lib.hid hL2
  have HRI := Lib.hid hi
  clear hE hI hB1 hB2 hL1 hL2 hi
  have hb0 := two_new8 w (.cells #[.int .i64 L1, .slice A1 l1.length c1] 25) (.cells #[.int .i64 L2, .slice A2 l2.length c2] 25)
  have hr1 : ((w.alloc (.cells #[.int .i64 L1, .slice A1 l1.length c1] 25)).alloc (.cells #[.int .i64 L2, .slice A2 l2.length c2] 25)).heap[w.heap.size]? = some (.cells #[.int .i64 L1, .slice A1 l1.length c1] 25 (0, 0)) := (Below.heap_alloc _ _ _ (by simp)).trans (heap_alloc_new w _)
  have hr2 : ((w.alloc (.cells #[.int .i64 L1, .slice A1 l1.length c1] 25)).alloc (.cells #[.int .i64 L2, .slice A2 l2.length c2] 25)).heap[w.heap.size + 1]? = some (.cells #[.int .i64 L2, .slice A2 l2.length c2] 25 (0, 0)) := heap_two8 w (.cells #[.int .i64 L1, .slice A1 l1.length c1] 25) #[.int .i64 L2, .slice A2 l2.length c2] 25
  have hs0 : ((w.alloc (.cells #[.int .i64 L1, .slice A1 l1.length c1] 25)).alloc (.cells #[.int .i64 L2, .slice A2 l2.length c2] 25)).heap.size = w.heap.size + 2 := by simp
  go_enter Try.func3, Try.ntmps3
  go_wp2_with fail
  generalize (w.alloc (.cells #[.int .i64 L1, .slice A1 l1.length c1] 25)).alloc (.cells #[.int .i64 L2, .slice A2 l2.length c2] 25) = W0 at *
  refine (awake9_any W0 (HE.out _ hb0)).mono ?_
  rintro e w1 ⟨rfl, b1⟩
  have hx1 := (b1.block w.heap.size (by omega)).trans hr1
  have hy1 := (b1.block (w.heap.size + 1) (by omega)).trans hr2
  have bw1 := same_of hb0 b1
  have hs1 : w.heap.size + 2 ≤ w1.heap.size := by have := b1.size; omega
  obtain ⟨⟨x0, x1⟩, -⟩ := row2 hx1
  obtain ⟨⟨y0, y1⟩, -⟩ := row2 hy1
  clear hr1 hr2 hb0 b1 hs0
  go_wp2_with fail
  refine (Few_any A n c w1 (Nat.le_trans HI.out.1 HI.out.2.1)).mono ?_
  rintro e w1' ⟨rfl, rfl⟩
  by_cases hn : n ≤ 400
  · have hd : decide (n ≤ 400) = true := by simp [hn]
    rw [hd]
    clear hd
    by_cases hl1 : l1.length ≤ 40
    · have hgt1 : ¬ (40 : Int) < (l1.length : Int) := by omega
      by_cases hl2 : l2.length ≤ 40
      · have hgt2 : ¬ (40 : Int) < (l2.length : Int) := by omega
        by_cases hsz : s.size ≤ 600
        · have hgt3 : ¬ (600 : Int) < (s.size : Int) := by omega
          go_wp2_with fail
          refine (New_any A n c w1 (HI.out.below bw1)).mono ?_
          rintro e w3 ⟨rfl, hd3, b3⟩
          have hx3 := (b3.block w.heap.size (by omega)).trans hx1
          have hy3 := (b3.block (w.heap.size + 1) (by omega)).trans hy1
          generalize hg : w1.heap.size = g at *
          have HG := Lib.hid hg
          clear hg
          have hgw : w.heap.size + 2 ≤ g := hs1
          have bw3 : Below w.heap.size w w3 := bw1.trans (b3.mono (by omega))
          clear b3 bw1 x0 x1 y0 y1 hx1 hy1
          have hkp3 : Kept g w3 w3 := ⟨fun _ _ _ => rfl, Nat.le_refl _, hd3⟩
          go_wp2_with fail
          refine (Next_any g w3 hd3 4 (by omega) (by omega)).mono ?_
          rintro e w4 ⟨x, rfl, ⟨hz0, hz1⟩, hd4, g4⟩
          obtain ⟨m, rfl⟩ := Int.eq_ofNat_of_zero_le hz0
          have bw4 : Below w.heap.size w w4 := bw3.trans (below_of_grown g4 (by omega) bw3.size)
          have hkp4 := hkp3.grown g4 hd4
          obtain ⟨qx, hqx⟩ : ∃ q : Int, 64 * (1 + (m : Int)) = q := ⟨_, rfl⟩
          have HQX := Lib.hid hqx
          have hqx0 : 64 ≤ qx ∧ qx ≤ 256 := by omega
          have HB4 := Bits_any g w4 hd4 (1 + m) (by omega)
          rw [show 64 * ((1 + m : Nat) : Int) = qx by omega] at HB4
          clear hz0 hz1 bw3 hkp3 g4 hd3
          go_wp2_with fail
          refine HB4.mono ?_
          rintro e w5 ⟨u5, lx, rfl, hlx, ho5, hd5, g5⟩
          obtain ⟨A5, c5, rfl⟩ := ho5.slice_
          have bw5 : Below w.heap.size w w5 := bw4.trans (below_of_grown g5 (by omega) bw4.size)
          have hkp5 := hkp4.grown g5 hd5
          have hgl := hd4.lt
          have HLX := Lib.hid (show lx.length ≤ 40 by omega)
          clear HB4 hqx hlx g5 bw4 hkp4
          go_wp2_with fail
          refine (Next_any g w5 hd5 4 (by omega) (by omega)).mono ?_
          rintro e w6 ⟨x, rfl, ⟨hz0, hz1⟩, hd6, g6⟩
          obtain ⟨m2, rfl⟩ := Int.eq_ofNat_of_zero_le hz0
          have bw6 : Below w.heap.size w w6 := bw5.trans (below_of_grown g6 (by omega) bw5.size)
          have ho6 := (Kept.grown (⟨fun _ _ _ => rfl, Nat.le_refl _, hd5⟩ : Kept g w5 w5) g6 hd6).owns ho5 hgl
          have hkp6 := hkp5.grown g6 hd6
          obtain ⟨qy, hqy⟩ : ∃ q : Int, 64 * (1 + (m2 : Int)) = q := ⟨_, rfl⟩
          have HQY := Lib.hid hqy
          have hqy0 : 64 ≤ qy ∧ qy ≤ 256 := by omega
          have HB6 := Bits_any g w6 hd6 (1 + m2) (by omega)
          rw [show 64 * ((1 + m2 : Nat) : Int) = qy by omega] at HB6
          have hgl6 := hd6.lt
          clear hz0 hz1 bw5 g6 hkp5 ho5
          go_wp2_with fail
          refine HB6.mono ?_
          rintro e w7 ⟨u7, ly, rfl, hly, ho7, hd7, g7⟩
          obtain ⟨A7, c7, rfl⟩ := ho7.slice_
          have bw7 : Below w.heap.size w w7 := bw6.trans (below_of_grown g7 (by omega) bw6.size)
          have hox7 := (Kept.grown (⟨fun _ _ _ => rfl, Nat.le_refl _, hd6⟩ : Kept g w6 w6) g7 hd7).owns ho6 hgl
          have hkp7 := hkp6.grown g7 hd7
          have HLY := Lib.hid (show ly.length ≤ 40 by omega)
          clear HB6 hqy hly g7 bw6 hkp6 ho6 hd6 hd5 hd4
          obtain ⟨W8, hW8⟩ : ∃ W, W = (w7.alloc (.cells #[.int .i64 qx, .slice A5 lx.length c5] 25)).alloc (.cells #[.int .i64 qy, .slice A7 ly.length c7] 25) := ⟨_, rfl⟩
          have hxX : W8.heap[w7.heap.size]? = some (.cells #[.int .i64 qx, .slice A5 lx.length c5] 25 (0, 0)) := by rw [hW8]; exact (Below.heap_alloc _ _ _ (by simp)).trans (heap_alloc_new w7 _)
          have hxY : W8.heap[w7.heap.size + 1]? = some (.cells #[.int .i64 qy, .slice A7 ly.length c7] 25 (0, 0)) := by
            have := heap_alloc_new (w7.alloc (.cells #[.int .i64 qx, .slice A5 lx.length c5] 25)) (.cells #[.int .i64 qy, .slice A7 ly.length c7] 25)
            rw [World.size_alloc] at this
            rw [hW8]
            exact this
          have hbb : Below w7.heap.size w7 W8 := by rw [hW8]; exact two_new8 w7 _ _
          have bW8 : Below w.heap.size w W8 := same_of bw7 hbb
          have hkp8 : Kept g w3 W8 := hkp7.below hbb
          have hx8 := (hkp8.1 w.heap.size (Array.getElem?_eq_some_iff.1 hx3).1 (by omega)).trans hx3
          have hy8 := (hkp8.1 (w.heap.size + 1) (Array.getElem?_eq_some_iff.1 hy3).1 (by omega)).trans hy3
          have hoX8 := hox7.keep hbb
          have hoY8 := ho7.keep hbb
          have hd8 : Deck g W8 := hkp8.2.2
          have hgw7 := hd7.lt
          have hs78 : W8.heap.size = w7.heap.size + 2 := by rw [hW8]; simp
          have HWE := Lib.hid hW8
          obtain ⟨ns, hns⟩ : ∃ ns : List Int, ns = [i, 64, 128, 512, 576, 0, 32] := ⟨_, rfl⟩
          have HNS := Lib.hid (show ns.length = 7 ∧ ∀ x ∈ ns, InRange x by
            rw [hns]
            refine ⟨rfl, fun x hx => ?_⟩
            simp only [List.mem_cons, List.not_mem_nil, or_false] at hx
            rcases hx with rfl | rfl | rfl | rfl | rfl | rfl | rfl
            · exact HRI.out
            all_goals (unfold InRange; omega))
          have HNR := Lib.hid (show (ns.map (Value.int .i64)).toArray = #[.int .i64 i, .int .i64 64, .int .i64 128, .int .i64 512, .int .i64 576, .int .i64 0, .int .i64 32] by rw [hns]; rfl)
          clear hW8
          have HS78 := Lib.hid hs78
          clear hs78 hns bw7 hbb hox7 ho7 hkp7 hx3 hy3 hd7
          go_wp2_with fail
          rw [← HWE.out]
          clear HWE
          generalize w7.heap.size = X at *
          rw [← HNR.out]
          obtain ⟨W9, hW9⟩ : ∃ W, W = W8.alloc (.cells (ns.map (Value.int .i64)).toArray 3) := ⟨_, rfl⟩
          have hrow : W9.heap[W8.heap.size]? = some (.cells (ns.map (Value.int .i64)).toArray 3 (0, 0)) := by rw [hW9]; exact heap_alloc_new W8 _
          have hb89 : Below W8.heap.size W8 W9 := by rw [hW9]; exact (Below.refl _ W8).alloc (Nat.le_refl _) _
          rw [← hW9]
          clear hW9
          have bW9 := same_of bW8 hb89
          have HROW := Lib.hid (fun W (h : Below W9.heap.size W9 W) => (h.block _ (Array.getElem?_eq_some_iff.1 hrow).1).trans hrow)
          have HBW9 := Lib.hid bW9
          have H89 := Lib.hid hb89
          have hsz9 := bW9.size
          have HX8 := Lib.hid hx8
          have HY8 := Lib.hid hy8
          have HXX := Lib.hid hxX
          have HXY := Lib.hid hxY
          have HOX := Lib.hid hoX8
          have HOY := Lib.hid hoY8
          have HD8 := Lib.hid hd8
          clear hrow hb89 bW9 hx8 hy8 hxX hxY hoX8 hoY8 hd8 bW8 hkp8
          rw [show X + 1 + 1 = W8.heap.size from HS78.out.symm]
          generalize W8.heap.size = R at HROW ⊢
          go_loopw [98] (fun iv wr => ∃ k : Nat, k ≤ 7 ∧ iv = .int .i64 k ∧ Below W9.heap.size W9 wr) (fun iv _ => 7 - (intOf iv).toNat)
          case atStart => exact ⟨0, by omega, rfl, Below.refl _ _⟩
          case round =>
            obtain ⟨k, hk, rfl, hbr⟩ := hrel
            by_cases hlt : k < 7
            · as_aux_lemma =>
                obtain ⟨hlen, hall⟩ := HNS.out
                have i1 : (k : Int) < 7 := by omega
                have c0 := row_ints (HROW.out _ hbr) k (by omega)
                have hnv := hall ns[k] (List.getElem_mem _)
                generalize ns[k] = nv at *
                have HP := Lib.hid (fun W (h : Below W9.heap.size W9 W) => pNew_any nv W (HE.out _ (same_of HBW9.out h)) hnv)
                have HR := Lib.hid (fun W => rNew_any nv W hnv)
                generalize BM.newM nv = M at *
                obtain ⟨RC, RL, RW⟩ := M
                have bwr := hbr
                clear hbr hall hnv hlen
                go_wp2_with fail
                refine (HP.out _ bwr).mono ?_
                rintro e wa ⟨ua, rfl, hoa, hra, ba⟩
                simp only at hoa hra
                obtain ⟨Aa, ca, rfl⟩ : ∃ A c, ua = .slice A RW.length c := hoa.slice_
                obtain ⟨Wa, hWa⟩ : ∃ W, W = wa.alloc (.cells #[.int .i64 RL, .slice Aa RW.length ca] 25) := ⟨_, rfl⟩
                have bWa : Below W9.heap.size W9 Wa := by rw [hWa]; exact same_al (same_of bwr ba)
                have hPa_a : Wa.heap[wa.heap.size]? = some (.cells #[.int .i64 RL, .slice Aa RW.length ca] 25 (0, 0)) := by rw [hWa]; exact heap_alloc_new wa _
                have hIa_a : IsBits Wa.heap.size Wa (.agg #[.int .i64 RL, .slice Aa RW.length ca]) RL RW := by rw [hWa]; exact made_next hoa hra _
                have HWE := Lib.hid hWa
                clear hWa hoa hra bwr ba
                go_wp2_with fail
                rw [← HWE.out]
                clear HWE
                generalize wa.heap.size = Pa at *
                refine (HR.out _).mono ?_
                rintro e wb ⟨ub, rfl, hob, hrb, bb⟩
                simp only at hob hrb
                obtain ⟨Ab, cb, rfl⟩ : ∃ A c, ub = .slice A RW.length c := hob.slice_
                obtain ⟨Wb, hWb⟩ : ∃ W, W = wb.alloc (.cells #[.int .i64 RL, .slice Ab RW.length cb] 25) := ⟨_, rfl⟩
                have bWb : Below W9.heap.size W9 Wb := by rw [hWb]; exact same_al (same_of bWa bb)
                have hPa_a_b := row_next hPa_a bb (.cells #[.int .i64 RL, .slice Ab RW.length cb] 25)
                rw [← hWb] at hPa_a_b
                have hIa_a_b := bits_next hIa_a bb (.cells #[.int .i64 RL, .slice Ab RW.length cb] 25)
                rw [← hWb] at hIa_a_b
                have hPb_b : Wb.heap[wb.heap.size]? = some (.cells #[.int .i64 RL, .slice Ab RW.length cb] 25 (0, 0)) := by rw [hWb]; exact heap_alloc_new wb _
                have hIb_b : IsBits Wb.heap.size Wb (.agg #[.int .i64 RL, .slice Ab RW.length cb]) RL RW := by rw [hWb]; exact made_next hob hrb _
                have HWE := Lib.hid hWb
                have ha1 := (Array.getElem?_eq_some_iff.1 hPa_a).1
                have hwx := (bb.block Pa ha1).trans hPa_a
                obtain ⟨⟨p0, p1⟩, -⟩ := row2 hwx
                have hPb := Nat.lt_of_lt_of_le ha1 bb.size
                clear hWb hob hrb bWa hPa_a hIa_a bb hwx ha1
                go_wp2_with fail
                rw [← HWE.out]
                clear HWE p0 p1 hPb
                generalize wb.heap.size = Pb at *
                refine (same_self Wb.heap.size _ _ RL RW Wb hIa_a_b hIb_b (Nat.le_refl _)).mono ?_
                rintro e wc ⟨rfl, bc⟩
                have hend := Lib.hid (same_of bWb bc)
                clear bc bWb hIa_a_b hIb_b hPa_a_b hPb_b
                go_wp2
                exact ⟨⟨k + 1, by omega, by go_num, hend.out⟩, by simp [intOf]; omega⟩
            · obtain rfl : k = 7 := by omega
              clear hlt hk
              have bw := same_of HBW9.out hbr
              have b8 : Below W8.heap.size W8 wr := same_of H89.out hbr
              have hx9 := (b8.block w.heap.size (Array.getElem?_eq_some_iff.1 HX8.out).1).trans HX8.out
              have hy9 := (b8.block (w.heap.size + 1) (Array.getElem?_eq_some_iff.1 HY8.out).1).trans HY8.out
              have hX9 := (b8.block X (Array.getElem?_eq_some_iff.1 HXX.out).1).trans HXX.out
              have hY9 := (b8.block (X + 1) (Array.getElem?_eq_some_iff.1 HXY.out).1).trans HXY.out
              have hoX9 := HOX.out.keep b8
              have hoY9 := HOY.out.keep b8
              have hd9 : Deck g wr := HD8.out.below b8 HD8.out.lt
              obtain ⟨⟨x0, x1⟩, -⟩ := row2 hx9
              obtain ⟨⟨y0, y1⟩, -⟩ := row2 hX9
              obtain ⟨WA, hWA⟩ : ∃ W, W = wr.alloc (.cells #[.int .i64 L1, .slice A1 l1.length c1, .int .i64 qx, .slice A5 lx.length c5] 25) := ⟨_, rfl⟩
              have hbA : Below wr.heap.size wr WA := by rw [hWA]; exact (Below.refl _ wr).alloc (Nat.le_refl _) _
              have hrP : WA.heap[wr.heap.size]? = some (.cells #[.int .i64 L1, .slice A1 l1.length c1, .int .i64 qx, .slice A5 lx.length c5] 25 (0, 0)) := by rw [hWA]; exact heap_alloc_new wr _
              have HWE := Lib.hid hWA
              have hxA := (hbA.block w.heap.size (Array.getElem?_eq_some_iff.1 hx9).1).trans hx9
              have hyA := (hbA.block (w.heap.size + 1) (Array.getElem?_eq_some_iff.1 hy9).1).trans hy9
              have hXA := (hbA.block X (Array.getElem?_eq_some_iff.1 hX9).1).trans hX9
              have hYA := (hbA.block (X + 1) (Array.getElem?_eq_some_iff.1 hY9).1).trans hY9
              have hoXA := hoX9.keep hbA
              have hoYA := hoY9.keep hbA
              have hdA : Deck g WA := hd9.below hbA hd9.lt
              have bA := same_of bw hbA
              have hgr := hd9.lt
              have HGW := Lib.hid hgw
              clear hWA hbr bw b8 hx9 hy9 hX9 hY9 hoX9 hoY9 hd9 HROW H89 HBW9 HX8 HY8 HXX HXY HOX HOY HD8 HS78 hbA
              go_wp2_with fail
              rw [← HWE.out]
              clear HWE x0 x1 y0 y1
              generalize wr.heap.size = P at *
              have hxl := (Array.getElem?_eq_some_iff.1 hxA).1
              have hyl := (Array.getElem?_eq_some_iff.1 hyA).1
              have hXl := (Array.getElem?_eq_some_iff.1 hXA).1
              have hYl := (Array.getElem?_eq_some_iff.1 hYA).1
              have hPl := (Array.getElem?_eq_some_iff.1 hrP).1
              have HROWS := Lib.hid (fun W (h : Kept g WA W) => show (W.heap[w.heap.size]? = some (.cells #[.int .i64 L1, .slice A1 l1.length c1] 25 (0, 0)) ∧ W.heap[w.heap.size + 1]? = some (.cells #[.int .i64 L2, .slice A2 l2.length c2] 25 (0, 0)) ∧ W.heap[X]? = some (.cells #[.int .i64 qx, .slice A5 lx.length c5] 25 (0, 0)) ∧ W.heap[X + 1]? = some (.cells #[.int .i64 qy, .slice A7 ly.length c7] 25 (0, 0)) ∧ W.heap[P]? = some (.cells #[.int .i64 L1, .slice A1 l1.length c1, .int .i64 qx, .slice A5 lx.length c5] 25 (0, 0))) from
                ⟨(h.1 _ hxl (by omega)).trans hxA, (h.1 _ hyl (by omega)).trans hyA, (h.1 _ hXl (by omega)).trans hXA, (h.1 _ hYl (by omega)).trans hYA, (h.1 _ hPl (by omega)).trans hrP⟩)
              have HBITS := Lib.hid (fun W (hb : Below w.heap.size w W) (h : Kept g WA W) => show (IsBits W.heap.size W (.agg #[.int .i64 L1, .slice A1 l1.length c1]) L1 l1 ∧ IsBits W.heap.size W (.agg #[.int .i64 L2, .slice A2 l2.length c2]) L2 l2 ∧ IsBits W.heap.size W (.agg #[.int .i64 qx, .slice A5 lx.length c5]) qx lx ∧ IsBits W.heap.size W (.agg #[.int .i64 qy, .slice A7 ly.length c7]) qy ly) from
                ⟨(HB1.out.keep hb).more hb.size, (HB2.out.keep hb).more hb.size, (h.owns hoXA hgl).bits (by unfold InRange; omega), (h.owns hoYA hgl6).bits (by unfold InRange; omega)⟩)
              have hkA : Kept g WA WA := ⟨fun _ _ _ => rfl, Nat.le_refl _, hdA⟩
              clear hxA hyA hXA hYA hrP hoXA hoYA hdA
              go_loopw [126] (fun iv wr => ∃ k : Nat, k ≤ 2 ∧ iv = .int .i64 k ∧ Below w.heap.size w wr ∧ Kept g WA wr) (fun iv _ => 2 - (intOf iv).toNat)
              case atStart => exact ⟨0, by omega, rfl, bA, hkA⟩
              case round =>
                obtain ⟨k, hk, rfl, hbr, hkr⟩ := hrel
                by_cases hlt : k < 2
                · have i1 : (k : Int) < 2 := by omega
                  obtain ⟨hx, hy, hX, hY, hP⟩ := HROWS.out wr hkr
                  have hpk : ∃ Lp lp Ap cp, wr.cell? ⟨P, k * 2, none⟩ = some (.int .i64 Lp) ∧ wr.cell? ⟨P, k * 2 + 1, none⟩ = some (.slice Ap lp.length cp) ∧ (∀ W, Below w.heap.size w W → Kept g WA W → IsBits W.heap.size W (.agg #[.int .i64 Lp, .slice Ap lp.length cp]) Lp lp) ∧ lp.length ≤ 40 ∧ InRange Lp := by
                    rcases (by omega : k = 0 ∨ k = 1) with rfl | rfl
                    · exact ⟨L1, l1, A1, c1, by rw [cell_of_row _ _ _ _ _ _ hP]; rfl, by rw [cell_of_row _ _ _ _ _ _ hP]; rfl, fun W hb h => (HBITS.out W hb h).1, hl1, HR1.out⟩
                    · exact ⟨qx, lx, A5, c5, by rw [cell_of_row _ _ _ _ _ _ hP]; rfl, by rw [cell_of_row _ _ _ _ _ _ hP]; rfl, fun W hb h => (HBITS.out W hb h).2.2.1, HLX.out, by unfold InRange; omega⟩
                  obtain ⟨Lp, lp, Ap, cp, p0, p1, hpb, hpl, hpr⟩ := hpk
                  have HPB := Lib.hid hpb
                  have HPR := Lib.hid hpr
                  obtain ⟨⟨y0, y1⟩, -⟩ := row2 hy
                  obtain ⟨⟨z0, z1⟩, -⟩ := row2 hY
                  obtain ⟨⟨v0, v1⟩, -⟩ := row2 hX
                  have hyw := (Array.getElem?_eq_some_iff.1 hy).1
                  have hYw := (Array.getElem?_eq_some_iff.1 hY).1
                  have hXw := (Array.getElem?_eq_some_iff.1 hX).1
                  obtain ⟨WB, hWB⟩ : ∃ W, W = (wr.alloc (.cells #[.int .i64 Lp, .slice Ap lp.length cp] 25)).alloc (.cells #[.int .i64 L2, .slice A2 l2.length c2, .int .i64 qy, .slice A7 ly.length c7, .int .i64 qx, .slice A5 lx.length c5] 25) := ⟨_, rfl⟩
                  have hbB : Below wr.heap.size wr WB := by rw [hWB]; exact two_new8 wr _ _
                  have hQB : WB.heap[wr.heap.size]? = some (.cells #[.int .i64 Lp, .slice Ap lp.length cp] 25 (0, 0)) := by rw [hWB]; exact (Below.heap_alloc _ _ _ (by simp)).trans (heap_alloc_new wr _)
                  have hRB : WB.heap[wr.heap.size + 1]? = some (.cells #[.int .i64 L2, .slice A2 l2.length c2, .int .i64 qy, .slice A7 ly.length c7, .int .i64 qx, .slice A5 lx.length c5] 25 (0, 0)) := by
                    have := heap_alloc_new (wr.alloc (.cells #[.int .i64 Lp, .slice Ap lp.length cp] 25)) (.cells #[.int .i64 L2, .slice A2 l2.length c2, .int .i64 qy, .slice A7 ly.length c7, .int .i64 qx, .slice A5 lx.length c5] 25)
                    rw [World.size_alloc] at this
                    rw [hWB]
                    exact this
                  have HWE := Lib.hid hWB
                  have bB := same_of hbr hbB
                  have hkB := hkr.below hbB
                  have HBB := Lib.hid bB
                  have HKB := Lib.hid hkB
                  have hgQ : g < wr.heap.size := hkr.2.2.lt
                  clear hWB hpb hpr hbr hkr hbB hx hy hX hY hP
                  go_wp2_with fail
                  rw [← HWE.out]
                  clear HWE p0 p1 y0 y1 z0 z1 v0 v1 hyw hYw hXw
                  generalize wr.heap.size = Q at *
                  have HQR := Lib.hid (fun W (h : Below WB.heap.size WB W) => show (W.heap[Q]? = some (.cells #[.int .i64 Lp, .slice Ap lp.length cp] 25 (0, 0)) ∧ W.heap[Q + 1]? = some (.cells #[.int .i64 L2, .slice A2 l2.length c2, .int .i64 qy, .slice A7 ly.length c7, .int .i64 qx, .slice A5 lx.length c5] 25 (0, 0))) from ⟨(h.block _ (Array.getElem?_eq_some_iff.1 hQB).1).trans hQB, (h.block _ (Array.getElem?_eq_some_iff.1 hRB).1).trans hRB⟩)
                  clear hQB hRB bB hkB
                  go_loopw [135] (fun iv wr => ∃ j : Nat, j ≤ 3 ∧ iv = .int .i64 j ∧ Below WB.heap.size WB wr) (fun iv _ => 3 - (intOf iv).toNat)
                  case atStart => exact ⟨0, by omega, rfl, Below.refl _ _⟩
                  case round =>
                    obtain ⟨j, hj, rfl, hbr⟩ := hrel
                    by_cases hlt3 : j < 3
                    · as_aux_lemma =>
                        have i3 : (j : Int) < 3 := by omega
                        obtain ⟨hQ, hR⟩ := HQR.out _ hbr
                        have hqk : ∃ Lq lq Aq cq, wr.cell? ⟨Q + 1, j * 2, none⟩ = some (.int .i64 Lq) ∧ wr.cell? ⟨Q + 1, j * 2 + 1, none⟩ = some (.slice Aq lq.length cq) ∧ (∀ W, Below w.heap.size w W → Kept g WA W → IsBits W.heap.size W (.agg #[.int .i64 Lq, .slice Aq lq.length cq]) Lq lq) ∧ lq.length ≤ 40 ∧ InRange Lq := by
                          rcases (by omega : j = 0 ∨ j = 1 ∨ j = 2) with rfl | rfl | rfl
                          · exact ⟨L2, l2, A2, c2, by rw [cell_of_row _ _ _ _ _ _ hR]; rfl, by rw [cell_of_row _ _ _ _ _ _ hR]; rfl, fun W hb h => (HBITS.out W hb h).2.1, hl2, HR2.out⟩
                          · exact ⟨qy, ly, A7, c7, by rw [cell_of_row _ _ _ _ _ _ hR]; rfl, by rw [cell_of_row _ _ _ _ _ _ hR]; rfl, fun W hb h => (HBITS.out W hb h).2.2.2, HLY.out, by unfold InRange; omega⟩
                          · exact ⟨qx, lx, A5, c5, by rw [cell_of_row _ _ _ _ _ _ hR]; rfl, by rw [cell_of_row _ _ _ _ _ _ hR]; rfl, fun W hb h => (HBITS.out W hb h).2.2.1, HLX.out, by unfold InRange; omega⟩
                        obtain ⟨Lq, lq, Aq, cq, q0, q1, hqb, hql, hqr⟩ := hqk
                        have HQB := Lib.hid hqb
                        have HQQ := Lib.hid hqr
                        obtain ⟨⟨y0, y1⟩, -⟩ := row2 hQ
                        have hQl := (Array.getElem?_eq_some_iff.1 hQ).1
                        obtain ⟨WC, hWC⟩ : ∃ W, W = wr.alloc (.cells #[.int .i64 Lq, .slice Aq lq.length cq] 25) := ⟨_, rfl⟩
                        have hbC : Below wr.heap.size wr WC := by rw [hWC]; exact (Below.refl _ wr).alloc (Nat.le_refl _) _
                        have hSC : WC.heap[wr.heap.size]? = some (.cells #[.int .i64 Lq, .slice Aq lq.length cq] 25 (0, 0)) := by rw [hWC]; exact heap_alloc_new wr _
                        have hQC := (hbC.block Q hQl).trans hQ
                        have HWE := Lib.hid hWC
                        have bWC := same_of hbr hbC
                        have hIp := HPB.out WC (same_of HBB.out bWC) (HKB.out.below bWC)
                        have hIq := HQB.out WC (same_of HBB.out bWC) (HKB.out.below bWC)
                        clear hWC hqb hqr hbr hbC hQ hR
                        go_wp2_with fail
                        rw [← HWE.out]
                        clear HWE y0 y1 hQl q0 q1
                        generalize wr.heap.size = S at *
                        obtain ⟨⟨R0, L0', D0⟩, hM0⟩ : ∃ M, BM.combM (fun x y => x &&& y) Lp lp Lq lq = M := ⟨_, rfl⟩
                        have HM0 := Lib.hid hM0
                        clear hM0
                        obtain ⟨⟨R1, L1', D1⟩, hM1⟩ : ∃ M, BM.combM (fun x y => x ||| y) Lp lp Lq lq = M := ⟨_, rfl⟩
                        have HM1 := Lib.hid hM1
                        clear hM1
                        obtain ⟨⟨R2, L2', D2⟩, hM2⟩ : ∃ M, BM.combM (fun x y => x ^^^ y) Lp lp Lq lq = M := ⟨_, rfl⟩
                        have HM2 := Lib.hid hM2
                        clear hM2
                        have Cp0 := pAnd_any WC.heap.size (.agg #[.int .i64 Lp, .slice Ap lp.length cp]) (.agg #[.int .i64 Lq, .slice Aq lq.length cq]) Lp lp Lq lq WC (HE.out _ (same_of HBB.out bWC)) hIp hIq (Nat.le_refl _)
                        rw [HM0.out] at Cp0
                        refine Cp0.mono ?_
                        rintro e wp0 ⟨up0, rfl, hop0, hrp0, bp0⟩
                        simp only at hop0 hrp0
                        obtain ⟨Ap0, cp0, rfl⟩ : ∃ A c, up0 = .slice A D0.length c := hop0.slice_
                        obtain ⟨Wp0, hWp0⟩ : ∃ W, W = wp0.alloc (.cells #[.int .i64 L0', .slice Ap0 D0.length cp0] 25) := ⟨_, rfl⟩
                        have bWp0 : Below WB.heap.size WB Wp0 := by rw [hWp0]; exact same_al (same_of bWC bp0)
                        have hQC_p0 := row_next hQC bp0 (.cells #[.int .i64 L0', .slice Ap0 D0.length cp0] 25)
                        rw [← hWp0] at hQC_p0
                        obtain ⟨⟨y0, z0⟩, -⟩ := row2 ((bp0.block (Q) (Array.getElem?_eq_some_iff.1 hQC).1).trans hQC)
                        have s0 := Nat.lt_of_lt_of_le (Array.getElem?_eq_some_iff.1 hQC).1 bp0.size
                        have hSC_p0 := row_next hSC bp0 (.cells #[.int .i64 L0', .slice Ap0 D0.length cp0] 25)
                        rw [← hWp0] at hSC_p0
                        obtain ⟨⟨y1, z1⟩, -⟩ := row2 ((bp0.block (S) (Array.getElem?_eq_some_iff.1 hSC).1).trans hSC)
                        have s1 := Nat.lt_of_lt_of_le (Array.getElem?_eq_some_iff.1 hSC).1 bp0.size
                        have hIp_p0 := bits_next hIp bp0 (.cells #[.int .i64 L0', .slice Ap0 D0.length cp0] 25)
                        rw [← hWp0] at hIp_p0
                        have hIq_p0 := bits_next hIq bp0 (.cells #[.int .i64 L0', .slice Ap0 D0.length cp0] 25)
                        rw [← hWp0] at hIq_p0
                        have hTp0 : Wp0.heap[wp0.heap.size]? = some (.cells #[.int .i64 L0', .slice Ap0 D0.length cp0] 25 (0, 0)) := by rw [hWp0]; exact heap_alloc_new wp0 _
                        have hIp0 : IsBits Wp0.heap.size Wp0 (.agg #[.int .i64 L0', .slice Ap0 D0.length cp0]) L0' D0 := by rw [hWp0]; exact made_next hop0 hrp0 _
                        have HWE := Lib.hid hWp0
                        clear Cp0 hWp0 hop0 hrp0 bWC hQC hSC hIp hIq bp0
                        have hQC := hQC_p0
                        clear hQC_p0
                        have hSC := hSC_p0
                        clear hSC_p0
                        have hIp := hIp_p0
                        clear hIp_p0
                        have hIq := hIq_p0
                        clear hIq_p0
                        go_wp2_with fail
                        rw [← HWE.out]
                        clear HWE y0 z0 s0 y1 z1 s1
                        generalize wp0.heap.size = Tp0 at *
                        have Cr0 := rAnd_any Wp0.heap.size (.agg #[.int .i64 Lp, .slice Ap lp.length cp]) (.agg #[.int .i64 Lq, .slice Aq lq.length cq]) Lp Lq lp lq Wp0 hIp hIq (Nat.le_refl _)
                        rw [HM0.out] at Cr0
                        refine Cr0.mono ?_
                        rintro e wr0 ⟨ur0, rfl, hor0, hrr0, br0⟩
                        simp only at hor0 hrr0
                        obtain ⟨Ar0, cr0, rfl⟩ : ∃ A c, ur0 = .slice A D0.length c := hor0.slice_
                        obtain ⟨Wr0, hWr0⟩ : ∃ W, W = wr0.alloc (.cells #[.int .i64 L0', .slice Ar0 D0.length cr0] 25) := ⟨_, rfl⟩
                        have bWr0 : Below WB.heap.size WB Wr0 := by rw [hWr0]; exact same_al (same_of bWp0 br0)
                        have hQC_r0 := row_next hQC br0 (.cells #[.int .i64 L0', .slice Ar0 D0.length cr0] 25)
                        rw [← hWr0] at hQC_r0
                        obtain ⟨⟨y0, z0⟩, -⟩ := row2 ((br0.block (Q) (Array.getElem?_eq_some_iff.1 hQC).1).trans hQC)
                        have s0 := Nat.lt_of_lt_of_le (Array.getElem?_eq_some_iff.1 hQC).1 br0.size
                        have hSC_r0 := row_next hSC br0 (.cells #[.int .i64 L0', .slice Ar0 D0.length cr0] 25)
                        rw [← hWr0] at hSC_r0
                        obtain ⟨⟨y1, z1⟩, -⟩ := row2 ((br0.block (S) (Array.getElem?_eq_some_iff.1 hSC).1).trans hSC)
                        have s1 := Nat.lt_of_lt_of_le (Array.getElem?_eq_some_iff.1 hSC).1 br0.size
                        have hTp0_r0 := row_next hTp0 br0 (.cells #[.int .i64 L0', .slice Ar0 D0.length cr0] 25)
                        rw [← hWr0] at hTp0_r0
                        obtain ⟨⟨y2, z2⟩, -⟩ := row2 ((br0.block (Tp0) (Array.getElem?_eq_some_iff.1 hTp0).1).trans hTp0)
                        have s2 := Nat.lt_of_lt_of_le (Array.getElem?_eq_some_iff.1 hTp0).1 br0.size
                        have hIp_r0 := bits_next hIp br0 (.cells #[.int .i64 L0', .slice Ar0 D0.length cr0] 25)
                        rw [← hWr0] at hIp_r0
                        have hIq_r0 := bits_next hIq br0 (.cells #[.int .i64 L0', .slice Ar0 D0.length cr0] 25)
                        rw [← hWr0] at hIq_r0
                        have hIp0_r0 := bits_next hIp0 br0 (.cells #[.int .i64 L0', .slice Ar0 D0.length cr0] 25)
                        rw [← hWr0] at hIp0_r0
                        have hTr0 : Wr0.heap[wr0.heap.size]? = some (.cells #[.int .i64 L0', .slice Ar0 D0.length cr0] 25 (0, 0)) := by rw [hWr0]; exact heap_alloc_new wr0 _
                        have hIr0 : IsBits Wr0.heap.size Wr0 (.agg #[.int .i64 L0', .slice Ar0 D0.length cr0]) L0' D0 := by rw [hWr0]; exact made_next hor0 hrr0 _
                        have HWE := Lib.hid hWr0
                        clear Cr0 hWr0 hor0 hrr0 bWp0 hQC hSC hTp0 hIp hIq hIp0 br0
                        have hQC := hQC_r0
                        clear hQC_r0
                        have hSC := hSC_r0
                        clear hSC_r0
                        have hTp0 := hTp0_r0
                        clear hTp0_r0
                        have hIp := hIp_r0
                        clear hIp_r0
                        have hIq := hIq_r0
                        clear hIq_r0
                        have hIp0 := hIp0_r0
                        clear hIp0_r0
                        go_wp2_with fail
                        rw [← HWE.out]
                        clear HWE y0 z0 s0 y1 z1 s1 y2 z2 s2
                        generalize wr0.heap.size = Tr0 at *
                        have Cp1 := pOr_any Wr0.heap.size (.agg #[.int .i64 Lp, .slice Ap lp.length cp]) (.agg #[.int .i64 Lq, .slice Aq lq.length cq]) Lp lp Lq lq Wr0 (HE.out _ (same_of HBB.out bWr0)) hIp hIq (Nat.le_refl _)
                        rw [HM1.out] at Cp1
                        refine Cp1.mono ?_
                        rintro e wp1 ⟨up1, rfl, hop1, hrp1, bp1⟩
                        simp only at hop1 hrp1
                        obtain ⟨Ap1, cp1, rfl⟩ : ∃ A c, up1 = .slice A D1.length c := hop1.slice_
                        obtain ⟨Wp1, hWp1⟩ : ∃ W, W = wp1.alloc (.cells #[.int .i64 L1', .slice Ap1 D1.length cp1] 25) := ⟨_, rfl⟩
                        have bWp1 : Below WB.heap.size WB Wp1 := by rw [hWp1]; exact same_al (same_of bWr0 bp1)
                        have hQC_p1 := row_next hQC bp1 (.cells #[.int .i64 L1', .slice Ap1 D1.length cp1] 25)
                        rw [← hWp1] at hQC_p1
                        obtain ⟨⟨y0, z0⟩, -⟩ := row2 ((bp1.block (Q) (Array.getElem?_eq_some_iff.1 hQC).1).trans hQC)
                        have s0 := Nat.lt_of_lt_of_le (Array.getElem?_eq_some_iff.1 hQC).1 bp1.size
                        have hSC_p1 := row_next hSC bp1 (.cells #[.int .i64 L1', .slice Ap1 D1.length cp1] 25)
                        rw [← hWp1] at hSC_p1
                        obtain ⟨⟨y1, z1⟩, -⟩ := row2 ((bp1.block (S) (Array.getElem?_eq_some_iff.1 hSC).1).trans hSC)
                        have s1 := Nat.lt_of_lt_of_le (Array.getElem?_eq_some_iff.1 hSC).1 bp1.size
                        have hTp0_p1 := row_next hTp0 bp1 (.cells #[.int .i64 L1', .slice Ap1 D1.length cp1] 25)
                        rw [← hWp1] at hTp0_p1
                        obtain ⟨⟨y2, z2⟩, -⟩ := row2 ((bp1.block (Tp0) (Array.getElem?_eq_some_iff.1 hTp0).1).trans hTp0)
                        have s2 := Nat.lt_of_lt_of_le (Array.getElem?_eq_some_iff.1 hTp0).1 bp1.size
                        have hTr0_p1 := row_next hTr0 bp1 (.cells #[.int .i64 L1', .slice Ap1 D1.length cp1] 25)
                        rw [← hWp1] at hTr0_p1
                        obtain ⟨⟨y3, z3⟩, -⟩ := row2 ((bp1.block (Tr0) (Array.getElem?_eq_some_iff.1 hTr0).1).trans hTr0)
                        have s3 := Nat.lt_of_lt_of_le (Array.getElem?_eq_some_iff.1 hTr0).1 bp1.size
                        have hIp_p1 := bits_next hIp bp1 (.cells #[.int .i64 L1', .slice Ap1 D1.length cp1] 25)
                        rw [← hWp1] at hIp_p1
                        have hIq_p1 := bits_next hIq bp1 (.cells #[.int .i64 L1', .slice Ap1 D1.length cp1] 25)
                        rw [← hWp1] at hIq_p1
                        have hIp0_p1 := bits_next hIp0 bp1 (.cells #[.int .i64 L1', .slice Ap1 D1.length cp1] 25)
                        rw [← hWp1] at hIp0_p1
                        have hIr0_p1 := bits_next hIr0 bp1 (.cells #[.int .i64 L1', .slice Ap1 D1.length cp1] 25)
                        rw [← hWp1] at hIr0_p1
                        have hTp1 : Wp1.heap[wp1.heap.size]? = some (.cells #[.int .i64 L1', .slice Ap1 D1.length cp1] 25 (0, 0)) := by rw [hWp1]; exact heap_alloc_new wp1 _
                        have hIp1 : IsBits Wp1.heap.size Wp1 (.agg #[.int .i64 L1', .slice Ap1 D1.length cp1]) L1' D1 := by rw [hWp1]; exact made_next hop1 hrp1 _
                        have HWE := Lib.hid hWp1
                        clear Cp1 hWp1 hop1 hrp1 bWr0 hQC hSC hTp0 hTr0 hIp hIq hIp0 hIr0 bp1
                        have hQC := hQC_p1
                        clear hQC_p1
                        have hSC := hSC_p1
                        clear hSC_p1
                        have hTp0 := hTp0_p1
                        clear hTp0_p1
                        have hTr0 := hTr0_p1
                        clear hTr0_p1
                        have hIp := hIp_p1
                        clear hIp_p1
                        have hIq := hIq_p1
                        clear hIq_p1
                        have hIp0 := hIp0_p1
                        clear hIp0_p1
                        have hIr0 := hIr0_p1
                        clear hIr0_p1
                        go_wp2_with fail
                        rw [← HWE.out]
                        clear HWE y0 z0 s0 y1 z1 s1 y2 z2 s2 y3 z3 s3
                        generalize wp1.heap.size = Tp1 at *
                        have Cr1 := rOr_any Wp1.heap.size (.agg #[.int .i64 Lp, .slice Ap lp.length cp]) (.agg #[.int .i64 Lq, .slice Aq lq.length cq]) Lp Lq lp lq Wp1 hIp hIq (Nat.le_refl _)
                        rw [HM1.out] at Cr1
                        refine Cr1.mono ?_
                        rintro e wr1 ⟨ur1, rfl, hor1, hrr1, br1⟩
                        simp only at hor1 hrr1
                        obtain ⟨Ar1, cr1, rfl⟩ : ∃ A c, ur1 = .slice A D1.length c := hor1.slice_
                        obtain ⟨Wr1, hWr1⟩ : ∃ W, W = wr1.alloc (.cells #[.int .i64 L1', .slice Ar1 D1.length cr1] 25) := ⟨_, rfl⟩
                        have bWr1 : Below WB.heap.size WB Wr1 := by rw [hWr1]; exact same_al (same_of bWp1 br1)
                        have hQC_r1 := row_next hQC br1 (.cells #[.int .i64 L1', .slice Ar1 D1.length cr1] 25)
                        rw [← hWr1] at hQC_r1
                        obtain ⟨⟨y0, z0⟩, -⟩ := row2 ((br1.block (Q) (Array.getElem?_eq_some_iff.1 hQC).1).trans hQC)
                        have s0 := Nat.lt_of_lt_of_le (Array.getElem?_eq_some_iff.1 hQC).1 br1.size
                        have hSC_r1 := row_next hSC br1 (.cells #[.int .i64 L1', .slice Ar1 D1.length cr1] 25)
                        rw [← hWr1] at hSC_r1
                        obtain ⟨⟨y1, z1⟩, -⟩ := row2 ((br1.block (S) (Array.getElem?_eq_some_iff.1 hSC).1).trans hSC)
                        have s1 := Nat.lt_of_lt_of_le (Array.getElem?_eq_some_iff.1 hSC).1 br1.size
                        have hTp0_r1 := row_next hTp0 br1 (.cells #[.int .i64 L1', .slice Ar1 D1.length cr1] 25)
                        rw [← hWr1] at hTp0_r1
                        obtain ⟨⟨y2, z2⟩, -⟩ := row2 ((br1.block (Tp0) (Array.getElem?_eq_some_iff.1 hTp0).1).trans hTp0)
                        have s2 := Nat.lt_of_lt_of_le (Array.getElem?_eq_some_iff.1 hTp0).1 br1.size
                        have hTr0_r1 := row_next hTr0 br1 (.cells #[.int .i64 L1', .slice Ar1 D1.length cr1] 25)
                        rw [← hWr1] at hTr0_r1
                        obtain ⟨⟨y3, z3⟩, -⟩ := row2 ((br1.block (Tr0) (Array.getElem?_eq_some_iff.1 hTr0).1).trans hTr0)
                        have s3 := Nat.lt_of_lt_of_le (Array.getElem?_eq_some_iff.1 hTr0).1 br1.size
                        have hTp1_r1 := row_next hTp1 br1 (.cells #[.int .i64 L1', .slice Ar1 D1.length cr1] 25)
                        rw [← hWr1] at hTp1_r1
                        obtain ⟨⟨y4, z4⟩, -⟩ := row2 ((br1.block (Tp1) (Array.getElem?_eq_some_iff.1 hTp1).1).trans hTp1)
                        have s4 := Nat.lt_of_lt_of_le (Array.getElem?_eq_some_iff.1 hTp1).1 br1.size
                        have hIp_r1 := bits_next hIp br1 (.cells #[.int .i64 L1', .slice Ar1 D1.length cr1] 25)
                        rw [← hWr1] at hIp_r1
                        have hIq_r1 := bits_next hIq br1 (.cells #[.int .i64 L1', .slice Ar1 D1.length cr1] 25)
                        rw [← hWr1] at hIq_r1
                        have hIp0_r1 := bits_next hIp0 br1 (.cells #[.int .i64 L1', .slice Ar1 D1.length cr1] 25)
                        rw [← hWr1] at hIp0_r1
                        have hIr0_r1 := bits_next hIr0 br1 (.cells #[.int .i64 L1', .slice Ar1 D1.length cr1] 25)
                        rw [← hWr1] at hIr0_r1
                        have hIp1_r1 := bits_next hIp1 br1 (.cells #[.int .i64 L1', .slice Ar1 D1.length cr1] 25)
                        rw [← hWr1] at hIp1_r1
                        have hTr1 : Wr1.heap[wr1.heap.size]? = some (.cells #[.int .i64 L1', .slice Ar1 D1.length cr1] 25 (0, 0)) := by rw [hWr1]; exact heap_alloc_new wr1 _
                        have hIr1 : IsBits Wr1.heap.size Wr1 (.agg #[.int .i64 L1', .slice Ar1 D1.length cr1]) L1' D1 := by rw [hWr1]; exact made_next hor1 hrr1 _
                        have HWE := Lib.hid hWr1
                        clear Cr1 hWr1 hor1 hrr1 bWp1 hQC hSC hTp0 hTr0 hTp1 hIp hIq hIp0 hIr0 hIp1 br1
                        have hQC := hQC_r1
                        clear hQC_r1
                        have hSC := hSC_r1
                        clear hSC_r1
                        have hTp0 := hTp0_r1
                        clear hTp0_r1
                        have hTr0 := hTr0_r1
                        clear hTr0_r1
                        have hTp1 := hTp1_r1
                        clear hTp1_r1
                        have hIp := hIp_r1
                        clear hIp_r1
                        have hIq := hIq_r1
                        clear hIq_r1
                        have hIp0 := hIp0_r1
                        clear hIp0_r1
                        have hIr0 := hIr0_r1
                        clear hIr0_r1
                        have hIp1 := hIp1_r1
                        clear hIp1_r1
                        go_wp2_with fail
                        rw [← HWE.out]
                        clear HWE y0 z0 s0 y1 z1 s1 y2 z2 s2 y3 z3 s3 y4 z4 s4
                        generalize wr1.heap.size = Tr1 at *
                        have Cp2 := pXor_any Wr1.heap.size (.agg #[.int .i64 Lp, .slice Ap lp.length cp]) (.agg #[.int .i64 Lq, .slice Aq lq.length cq]) Lp lp Lq lq Wr1 (HE.out _ (same_of HBB.out bWr1)) hIp hIq (Nat.le_refl _)
                        rw [HM2.out] at Cp2
                        refine Cp2.mono ?_
                        rintro e wp2 ⟨up2, rfl, hop2, hrp2, bp2⟩
                        simp only at hop2 hrp2
                        obtain ⟨Ap2, cp2, rfl⟩ : ∃ A c, up2 = .slice A D2.length c := hop2.slice_
                        obtain ⟨Wp2, hWp2⟩ : ∃ W, W = wp2.alloc (.cells #[.int .i64 L2', .slice Ap2 D2.length cp2] 25) := ⟨_, rfl⟩
                        have bWp2 : Below WB.heap.size WB Wp2 := by rw [hWp2]; exact same_al (same_of bWr1 bp2)
                        have hQC_p2 := row_next hQC bp2 (.cells #[.int .i64 L2', .slice Ap2 D2.length cp2] 25)
                        rw [← hWp2] at hQC_p2
                        obtain ⟨⟨y0, z0⟩, -⟩ := row2 ((bp2.block (Q) (Array.getElem?_eq_some_iff.1 hQC).1).trans hQC)
                        have s0 := Nat.lt_of_lt_of_le (Array.getElem?_eq_some_iff.1 hQC).1 bp2.size
                        have hSC_p2 := row_next hSC bp2 (.cells #[.int .i64 L2', .slice Ap2 D2.length cp2] 25)
                        rw [← hWp2] at hSC_p2
                        obtain ⟨⟨y1, z1⟩, -⟩ := row2 ((bp2.block (S) (Array.getElem?_eq_some_iff.1 hSC).1).trans hSC)
                        have s1 := Nat.lt_of_lt_of_le (Array.getElem?_eq_some_iff.1 hSC).1 bp2.size
                        have hTp0_p2 := row_next hTp0 bp2 (.cells #[.int .i64 L2', .slice Ap2 D2.length cp2] 25)
                        rw [← hWp2] at hTp0_p2
                        obtain ⟨⟨y2, z2⟩, -⟩ := row2 ((bp2.block (Tp0) (Array.getElem?_eq_some_iff.1 hTp0).1).trans hTp0)
                        have s2 := Nat.lt_of_lt_of_le (Array.getElem?_eq_some_iff.1 hTp0).1 bp2.size
                        have hTr0_p2 := row_next hTr0 bp2 (.cells #[.int .i64 L2', .slice Ap2 D2.length cp2] 25)
                        rw [← hWp2] at hTr0_p2
                        obtain ⟨⟨y3, z3⟩, -⟩ := row2 ((bp2.block (Tr0) (Array.getElem?_eq_some_iff.1 hTr0).1).trans hTr0)
                        have s3 := Nat.lt_of_lt_of_le (Array.getElem?_eq_some_iff.1 hTr0).1 bp2.size
                        have hTp1_p2 := row_next hTp1 bp2 (.cells #[.int .i64 L2', .slice Ap2 D2.length cp2] 25)
                        rw [← hWp2] at hTp1_p2
                        obtain ⟨⟨y4, z4⟩, -⟩ := row2 ((bp2.block (Tp1) (Array.getElem?_eq_some_iff.1 hTp1).1).trans hTp1)
                        have s4 := Nat.lt_of_lt_of_le (Array.getElem?_eq_some_iff.1 hTp1).1 bp2.size
                        have hTr1_p2 := row_next hTr1 bp2 (.cells #[.int .i64 L2', .slice Ap2 D2.length cp2] 25)
                        rw [← hWp2] at hTr1_p2
                        obtain ⟨⟨y5, z5⟩, -⟩ := row2 ((bp2.block (Tr1) (Array.getElem?_eq_some_iff.1 hTr1).1).trans hTr1)
                        have s5 := Nat.lt_of_lt_of_le (Array.getElem?_eq_some_iff.1 hTr1).1 bp2.size
                        have hIp_p2 := bits_next hIp bp2 (.cells #[.int .i64 L2', .slice Ap2 D2.length cp2] 25)
                        rw [← hWp2] at hIp_p2
                        have hIq_p2 := bits_next hIq bp2 (.cells #[.int .i64 L2', .slice Ap2 D2.length cp2] 25)
                        rw [← hWp2] at hIq_p2
                        have hIp0_p2 := bits_next hIp0 bp2 (.cells #[.int .i64 L2', .slice Ap2 D2.length cp2] 25)
                        rw [← hWp2] at hIp0_p2
                        have hIr0_p2 := bits_next hIr0 bp2 (.cells #[.int .i64 L2', .slice Ap2 D2.length cp2] 25)
                        rw [← hWp2] at hIr0_p2
                        have hIp1_p2 := bits_next hIp1 bp2 (.cells #[.int .i64 L2', .slice Ap2 D2.length cp2] 25)
                        rw [← hWp2] at hIp1_p2
                        have hIr1_p2 := bits_next hIr1 bp2 (.cells #[.int .i64 L2', .slice Ap2 D2.length cp2] 25)
                        rw [← hWp2] at hIr1_p2
                        have hTp2 : Wp2.heap[wp2.heap.size]? = some (.cells #[.int .i64 L2', .slice Ap2 D2.length cp2] 25 (0, 0)) := by rw [hWp2]; exact heap_alloc_new wp2 _
                        have hIp2 : IsBits Wp2.heap.size Wp2 (.agg #[.int .i64 L2', .slice Ap2 D2.length cp2]) L2' D2 := by rw [hWp2]; exact made_next hop2 hrp2 _
                        have HWE := Lib.hid hWp2
                        clear Cp2 hWp2 hop2 hrp2 bWr1 hQC hSC hTp0 hTr0 hTp1 hTr1 hIp hIq hIp0 hIr0 hIp1 hIr1 bp2
                        have hQC := hQC_p2
                        clear hQC_p2
                        have hSC := hSC_p2
                        clear hSC_p2
                        have hTp0 := hTp0_p2
                        clear hTp0_p2
                        have hTr0 := hTr0_p2
                        clear hTr0_p2
                        have hTp1 := hTp1_p2
                        clear hTp1_p2
                        have hTr1 := hTr1_p2
                        clear hTr1_p2
                        have hIp := hIp_p2
                        clear hIp_p2
                        have hIq := hIq_p2
                        clear hIq_p2
                        have hIp0 := hIp0_p2
                        clear hIp0_p2
                        have hIr0 := hIr0_p2
                        clear hIr0_p2
                        have hIp1 := hIp1_p2
                        clear hIp1_p2
                        have hIr1 := hIr1_p2
                        clear hIr1_p2
                        go_wp2_with fail
                        rw [← HWE.out]
                        clear HWE y0 z0 s0 y1 z1 s1 y2 z2 s2 y3 z3 s3 y4 z4 s4 y5 z5 s5
                        generalize wp2.heap.size = Tp2 at *
                        have Cr2 := rXor_any Wp2.heap.size (.agg #[.int .i64 Lp, .slice Ap lp.length cp]) (.agg #[.int .i64 Lq, .slice Aq lq.length cq]) Lp Lq lp lq Wp2 hIp hIq (Nat.le_refl _)
                        rw [HM2.out] at Cr2
                        refine Cr2.mono ?_
                        rintro e wr2 ⟨ur2, rfl, hor2, hrr2, br2⟩
                        simp only at hor2 hrr2
                        obtain ⟨Ar2, cr2, rfl⟩ : ∃ A c, ur2 = .slice A D2.length c := hor2.slice_
                        obtain ⟨Wr2, hWr2⟩ : ∃ W, W = wr2.alloc (.cells #[.int .i64 L2', .slice Ar2 D2.length cr2] 25) := ⟨_, rfl⟩
                        have bWr2 : Below WB.heap.size WB Wr2 := by rw [hWr2]; exact same_al (same_of bWp2 br2)
                        have hQC_r2 := row_next hQC br2 (.cells #[.int .i64 L2', .slice Ar2 D2.length cr2] 25)
                        rw [← hWr2] at hQC_r2
                        obtain ⟨⟨y0, z0⟩, -⟩ := row2 ((br2.block (Q) (Array.getElem?_eq_some_iff.1 hQC).1).trans hQC)
                        have s0 := Nat.lt_of_lt_of_le (Array.getElem?_eq_some_iff.1 hQC).1 br2.size
                        have hSC_r2 := row_next hSC br2 (.cells #[.int .i64 L2', .slice Ar2 D2.length cr2] 25)
                        rw [← hWr2] at hSC_r2
                        obtain ⟨⟨y1, z1⟩, -⟩ := row2 ((br2.block (S) (Array.getElem?_eq_some_iff.1 hSC).1).trans hSC)
                        have s1 := Nat.lt_of_lt_of_le (Array.getElem?_eq_some_iff.1 hSC).1 br2.size
                        have hTp0_r2 := row_next hTp0 br2 (.cells #[.int .i64 L2', .slice Ar2 D2.length cr2] 25)
                        rw [← hWr2] at hTp0_r2
                        obtain ⟨⟨y2, z2⟩, -⟩ := row2 ((br2.block (Tp0) (Array.getElem?_eq_some_iff.1 hTp0).1).trans hTp0)
                        have s2 := Nat.lt_of_lt_of_le (Array.getElem?_eq_some_iff.1 hTp0).1 br2.size
                        have hTr0_r2 := row_next hTr0 br2 (.cells #[.int .i64 L2', .slice Ar2 D2.length cr2] 25)
                        rw [← hWr2] at hTr0_r2
                        obtain ⟨⟨y3, z3⟩, -⟩ := row2 ((br2.block (Tr0) (Array.getElem?_eq_some_iff.1 hTr0).1).trans hTr0)
                        have s3 := Nat.lt_of_lt_of_le (Array.getElem?_eq_some_iff.1 hTr0).1 br2.size
                        have hTp1_r2 := row_next hTp1 br2 (.cells #[.int .i64 L2', .slice Ar2 D2.length cr2] 25)
                        rw [← hWr2] at hTp1_r2
                        obtain ⟨⟨y4, z4⟩, -⟩ := row2 ((br2.block (Tp1) (Array.getElem?_eq_some_iff.1 hTp1).1).trans hTp1)
                        have s4 := Nat.lt_of_lt_of_le (Array.getElem?_eq_some_iff.1 hTp1).1 br2.size
                        have hTr1_r2 := row_next hTr1 br2 (.cells #[.int .i64 L2', .slice Ar2 D2.length cr2] 25)
                        rw [← hWr2] at hTr1_r2
                        obtain ⟨⟨y5, z5⟩, -⟩ := row2 ((br2.block (Tr1) (Array.getElem?_eq_some_iff.1 hTr1).1).trans hTr1)
                        have s5 := Nat.lt_of_lt_of_le (Array.getElem?_eq_some_iff.1 hTr1).1 br2.size
                        have hTp2_r2 := row_next hTp2 br2 (.cells #[.int .i64 L2', .slice Ar2 D2.length cr2] 25)
                        rw [← hWr2] at hTp2_r2
                        obtain ⟨⟨y6, z6⟩, -⟩ := row2 ((br2.block (Tp2) (Array.getElem?_eq_some_iff.1 hTp2).1).trans hTp2)
                        have s6 := Nat.lt_of_lt_of_le (Array.getElem?_eq_some_iff.1 hTp2).1 br2.size
                        have hIp_r2 := bits_next hIp br2 (.cells #[.int .i64 L2', .slice Ar2 D2.length cr2] 25)
                        rw [← hWr2] at hIp_r2
                        have hIq_r2 := bits_next hIq br2 (.cells #[.int .i64 L2', .slice Ar2 D2.length cr2] 25)
                        rw [← hWr2] at hIq_r2
                        have hIp0_r2 := bits_next hIp0 br2 (.cells #[.int .i64 L2', .slice Ar2 D2.length cr2] 25)
                        rw [← hWr2] at hIp0_r2
                        have hIr0_r2 := bits_next hIr0 br2 (.cells #[.int .i64 L2', .slice Ar2 D2.length cr2] 25)
                        rw [← hWr2] at hIr0_r2
                        have hIp1_r2 := bits_next hIp1 br2 (.cells #[.int .i64 L2', .slice Ar2 D2.length cr2] 25)
                        rw [← hWr2] at hIp1_r2
                        have hIr1_r2 := bits_next hIr1 br2 (.cells #[.int .i64 L2', .slice Ar2 D2.length cr2] 25)
                        rw [← hWr2] at hIr1_r2
                        have hIp2_r2 := bits_next hIp2 br2 (.cells #[.int .i64 L2', .slice Ar2 D2.length cr2] 25)
                        rw [← hWr2] at hIp2_r2
                        have hTr2 : Wr2.heap[wr2.heap.size]? = some (.cells #[.int .i64 L2', .slice Ar2 D2.length cr2] 25 (0, 0)) := by rw [hWr2]; exact heap_alloc_new wr2 _
                        have hIr2 : IsBits Wr2.heap.size Wr2 (.agg #[.int .i64 L2', .slice Ar2 D2.length cr2]) L2' D2 := by rw [hWr2]; exact made_next hor2 hrr2 _
                        have HWE := Lib.hid hWr2
                        clear Cr2 hWr2 hor2 hrr2 bWp2 hQC hSC hTp0 hTr0 hTp1 hTr1 hTp2 hIp hIq hIp0 hIr0 hIp1 hIr1 hIp2 br2
                        have hQC := hQC_r2
                        clear hQC_r2
                        have hSC := hSC_r2
                        clear hSC_r2
                        have hTp0 := hTp0_r2
                        clear hTp0_r2
                        have hTr0 := hTr0_r2
                        clear hTr0_r2
                        have hTp1 := hTp1_r2
                        clear hTp1_r2
                        have hTr1 := hTr1_r2
                        clear hTr1_r2
                        have hTp2 := hTp2_r2
                        clear hTp2_r2
                        have hIp := hIp_r2
                        clear hIp_r2
                        have hIq := hIq_r2
                        clear hIq_r2
                        have hIp0 := hIp0_r2
                        clear hIp0_r2
                        have hIr0 := hIr0_r2
                        clear hIr0_r2
                        have hIp1 := hIp1_r2
                        clear hIp1_r2
                        have hIr1 := hIr1_r2
                        clear hIr1_r2
                        have hIp2 := hIp2_r2
                        clear hIp2_r2
                        go_wp2_with fail
                        rw [← HWE.out]
                        clear HWE y0 z0 s0 y1 z1 s1 y2 z2 s2 y3 z3 s3 y4 z4 s4 y5 z5 s5 y6 z6 s6
                        generalize wr2.heap.size = Tr2 at *
                        have HBR := Lib.hid (Below.refl Wr2.heap.size Wr2)
                        have HBW := Lib.hid bWr2
                        have HS0 := Lib.hid (fun W (h : Below Wr2.heap.size Wr2 W) => same_self Wr2.heap.size _ _ L0' D0 W (hIp0.keep h) (hIr0.keep h) h.size)
                        have HS1 := Lib.hid (fun W (h : Below Wr2.heap.size Wr2 W) => same_self Wr2.heap.size _ _ L1' D1 W (hIp1.keep h) (hIr1.keep h) h.size)
                        have HS2 := Lib.hid (fun W (h : Below Wr2.heap.size Wr2 W) => same_self Wr2.heap.size _ _ L2' D2 W (hIp2.keep h) (hIr2.keep h) h.size)
                        have HC1 := Lib.hid (fun W (h : Below Wr2.heap.size Wr2 W) => pCompare_any Wr2.heap.size (.agg #[.int .i64 Lp, .slice Ap lp.length cp]) (.agg #[.int .i64 Lq, .slice Aq lq.length cq]) Lp lp Lq lq W (HE.out _ (same_of HBB.out (same_of HBW.out h))) (hIp.keep h) (hIq.keep h) h.size)
                        have HC2 := Lib.hid (fun W (h : Below Wr2.heap.size Wr2 W) => rCompare_any Wr2.heap.size (.agg #[.int .i64 Lp, .slice Ap lp.length cp]) (.agg #[.int .i64 Lq, .slice Aq lq.length cq]) Lp Lq lp lq W (hIp.keep h) (hIq.keep h) h.size)
                        generalize BM.cmpM Lp lp Lq lq = cm at *
                        clear hIp hIq hIp0 hIr0 hIp1 hIr1 hIp2 hIr2 bWr2
                        have xx0 : ∀ x : Grown Wr2, x.val.cell? ⟨Q, 0, none⟩ = some (.int .i64 Lp) := fun x => (row2 ((x.property.block (Q) (Array.getElem?_eq_some_iff.1 hQC).1).trans hQC)).1.1
                        have yy0 : ∀ x : Grown Wr2, x.val.cell? ⟨Q, 1, none⟩ = some (.slice Ap lp.length cp) := fun x => (row2 ((x.property.block (Q) (Array.getElem?_eq_some_iff.1 hQC).1).trans hQC)).1.2
                        have xx1 : ∀ x : Grown Wr2, x.val.cell? ⟨S, 0, none⟩ = some (.int .i64 Lq) := fun x => (row2 ((x.property.block (S) (Array.getElem?_eq_some_iff.1 hSC).1).trans hSC)).1.1
                        have yy1 : ∀ x : Grown Wr2, x.val.cell? ⟨S, 1, none⟩ = some (.slice Aq lq.length cq) := fun x => (row2 ((x.property.block (S) (Array.getElem?_eq_some_iff.1 hSC).1).trans hSC)).1.2
                        have xx2 : ∀ x : Grown Wr2, x.val.cell? ⟨Tp0, 0, none⟩ = some (.int .i64 L0') := fun x => (row2 ((x.property.block (Tp0) (Array.getElem?_eq_some_iff.1 hTp0).1).trans hTp0)).1.1
                        have yy2 : ∀ x : Grown Wr2, x.val.cell? ⟨Tp0, 1, none⟩ = some (.slice Ap0 D0.length cp0) := fun x => (row2 ((x.property.block (Tp0) (Array.getElem?_eq_some_iff.1 hTp0).1).trans hTp0)).1.2
                        have xx3 : ∀ x : Grown Wr2, x.val.cell? ⟨Tr0, 0, none⟩ = some (.int .i64 L0') := fun x => (row2 ((x.property.block (Tr0) (Array.getElem?_eq_some_iff.1 hTr0).1).trans hTr0)).1.1
                        have yy3 : ∀ x : Grown Wr2, x.val.cell? ⟨Tr0, 1, none⟩ = some (.slice Ar0 D0.length cr0) := fun x => (row2 ((x.property.block (Tr0) (Array.getElem?_eq_some_iff.1 hTr0).1).trans hTr0)).1.2
                        have xx4 : ∀ x : Grown Wr2, x.val.cell? ⟨Tp1, 0, none⟩ = some (.int .i64 L1') := fun x => (row2 ((x.property.block (Tp1) (Array.getElem?_eq_some_iff.1 hTp1).1).trans hTp1)).1.1
                        have yy4 : ∀ x : Grown Wr2, x.val.cell? ⟨Tp1, 1, none⟩ = some (.slice Ap1 D1.length cp1) := fun x => (row2 ((x.property.block (Tp1) (Array.getElem?_eq_some_iff.1 hTp1).1).trans hTp1)).1.2
                        have xx5 : ∀ x : Grown Wr2, x.val.cell? ⟨Tr1, 0, none⟩ = some (.int .i64 L1') := fun x => (row2 ((x.property.block (Tr1) (Array.getElem?_eq_some_iff.1 hTr1).1).trans hTr1)).1.1
                        have yy5 : ∀ x : Grown Wr2, x.val.cell? ⟨Tr1, 1, none⟩ = some (.slice Ar1 D1.length cr1) := fun x => (row2 ((x.property.block (Tr1) (Array.getElem?_eq_some_iff.1 hTr1).1).trans hTr1)).1.2
                        have xx6 : ∀ x : Grown Wr2, x.val.cell? ⟨Tp2, 0, none⟩ = some (.int .i64 L2') := fun x => (row2 ((x.property.block (Tp2) (Array.getElem?_eq_some_iff.1 hTp2).1).trans hTp2)).1.1
                        have yy6 : ∀ x : Grown Wr2, x.val.cell? ⟨Tp2, 1, none⟩ = some (.slice Ap2 D2.length cp2) := fun x => (row2 ((x.property.block (Tp2) (Array.getElem?_eq_some_iff.1 hTp2).1).trans hTp2)).1.2
                        have xx7 : ∀ x : Grown Wr2, x.val.cell? ⟨Tr2, 0, none⟩ = some (.int .i64 L2') := fun x => (row2 ((x.property.block (Tr2) (Array.getElem?_eq_some_iff.1 hTr2).1).trans hTr2)).1.1
                        have yy7 : ∀ x : Grown Wr2, x.val.cell? ⟨Tr2, 1, none⟩ = some (.slice Ar2 D2.length cr2) := fun x => (row2 ((x.property.block (Tr2) (Array.getElem?_eq_some_iff.1 hTr2).1).trans hTr2)).1.2
                        refine wp_region_below (by kernel_rfl) (by kernel_rfl) ?_
                        repeat (go_big_quiet_step (fail))
                        go_big_quiet_step ((go_at_call 15; exact grown_call (HS0.out _ (Subtype.property _))))
                        repeat (go_big_quiet_step (fail))
                        go_big_quiet_step ((go_at_call 15; exact grown_call (HS1.out _ (Subtype.property _))))
                        repeat (go_big_quiet_step (fail))
                        go_big_quiet_step ((go_at_call 15; exact grown_call (HS2.out _ (Subtype.property _))))
                        repeat (go_big_quiet_step (fail))
                        go_big_quiet_step ((go_at_call 22; exact grown_call (HC1.out _ (Subtype.property _))))
                        repeat (go_big_quiet_step (fail))
                        go_big_quiet_step ((go_at_call 23; exact grown_call (HC2.out _ (Subtype.property _))))
                        repeat (go_big_quiet_step (fail))
                        refine wpQuiet_nil ?_
                        intro wz hC
                        have hrl3 := grown_out hC
                        clear hC xx0 yy0 xx1 yy1 xx2 yy2 xx3 yy3 xx4 yy4 xx5 yy5 xx6 yy6 xx7 yy7
                        have hend := Lib.hid (same_of HBW.out hrl3)
                        clear hrl3 hQC hSC hTp0 hTr0 hTp1 hTr1 hTp2 hTr2
                        go_wp2_with fail
                        refine ⟨?_, ?hm⟩
                        case hm => exact (show 3 - (intOf (.int .i64 ((j : Int) + 1))).toNat < 3 - (intOf (.int .i64 (j : Int))).toNat by simp [intOf]; omega)
                        (repeat apply Exists.intro)
                        refine ⟨?_, rfl⟩
                        exact ⟨j + 1, by omega, by go_num, hend.out⟩
                    · obtain rfl : j = 3 := by omega
                      clear hlt3 hj
                      have hB3 := same_of HBB.out hbr
                      have hK3 := HKB.out.below hbr
                      have hQ3 := (HQR.out _ hbr).1
                      have hQl3 := (Array.getElem?_eq_some_iff.1 hQ3).1
                      obtain ⟨W3, hW3⟩ : ∃ W, W = wr := ⟨_, rfl⟩
                      rw [← hW3] at hB3 hK3 hQ3 hQl3 ⊢
                      clear hW3 hbr
                      have HB3 := Lib.hid hB3
                      have HK3 := Lib.hid hK3
                      have HD3 := Lib.hid hK3.2.2
                      have HQ3 := Lib.hid hQ3
                      obtain ⟨⟨x0, x1⟩, -⟩ := row2 hQ3
                      have HGQ := Lib.hid (And.intro hgQ hQl3)
                      clear hB3 hK3 hQ3
                      go_wp2_with fail
                      apply via_three (F := fun w9 z => w9.heap[Q]? = some (.cells #[.int .i64 Lp, .slice Ap lp.length cp] 25 (0, 0)) ∧ Kept g WA w9 ∧ Below w.heap.size w w9 ∧ Q < w9.heap.size)
                      · intro hN
                        go_region_with
                          (go_at_call 12
                           refine (Next_any g _ (by exact HD3.out) 300 (by omega) (by omega)).mono ?_
                           rintro e w9 ⟨z, rfl, hz01, hd9, g9⟩
                           have HQ9 := Lib.hid ((g9.block Q (by exact HGQ.out.2) (fun e => by have := HGQ.out.1; injection e; omega)).trans (by exact HQ3.out))
                           have hk9 : Kept g WA w9 := Kept.grown (by first | exact HK3.out | exact HK3.out.below ((Below.refl _ _).drew) | exact HK3.out.below (below_drewN (Below.refl _ _) _)) g9 hd9
                           have hb9 : Below w.heap.size w w9 := Below.trans (by first | exact HB3.out | exact HB3.out.drew | exact below_drewN HB3.out _) (below_of_grown g9 (by have := HGW.out; omega) (by exact HB3.out.size))
                           have HF := Lib.hid (show w9.heap[Q]? = some (.cells #[.int .i64 Lp, .slice Ap lp.length cp] 25 (0, 0)) ∧ Kept g WA w9 ∧ Below w.heap.size w w9 ∧ Q < w9.heap.size from ⟨HQ9.out, hk9, hb9, (Array.getElem?_eq_some_iff.1 HQ9.out).1⟩)
                           obtain ⟨⟨x0, x1⟩, -⟩ := row2 HQ9.out
                           clear hk9 hb9 g9 hd9 HQ9 hz01)
                        all_goals exact hN.out w9 z HF.out
                      · as_aux_lemma =>
                          rintro w9 z ⟨hq9, hk9, hb9, hql9⟩
                          clear x0 x1 HQ3 HD3 HK3 HB3
                          obtain ⟨ns4, hns4⟩ : ∃ ns : List Int, ns = [i, z, IntKind.i64.wrap (Lp - 1)] := ⟨_, rfl⟩
                          have hl4 : ns4.length = 3 := by rw [hns4]; rfl
                          rw [show #[Value.int .i64 i, Value.int .i64 z, Value.int .i64 (IntKind.i64.wrap (Lp - 1))] = (ns4.map (Value.int .i64)).toArray by rw [hns4]; rfl]
                          clear hns4
                          obtain ⟨V4, hV4⟩ : ∃ W, W = w9.alloc (.cells (ns4.map (Value.int .i64)).toArray 3) := ⟨_, rfl⟩
                          have hb49 : Below w9.heap.size w9 V4 := by rw [hV4]; exact (Below.refl _ w9).alloc (Nat.le_refl _) _
                          have hrw : V4.heap[w9.heap.size]? = some (.cells (ns4.map (Value.int .i64)).toArray 3 (0, 0)) := by rw [hV4]; exact heap_alloc_new w9 _
                          have hqV := (hb49.block Q hql9).trans hq9
                          have hkV := hk9.below hb49
                          have hbV := same_of hb9 hb49
                          have HL4 := Lib.hid hl4
                          simp only [Act.put, List.getElem_toArray, List.getElem_cons_succ, List.getElem_cons_zero, List.setIfInBounds_toArray, List.set_cons_succ, List.set_cons_zero]
                          rw [← hV4]
                          clear hV4 hb49 hq9 hk9 hb9 hl4
                          go_wp2_with fail
                          generalize w9.heap.size = R4 at *
                          have HQV := Lib.hid hqV
                          have HRW := Lib.hid (fun W (h : Below V4.heap.size V4 W) => (h.block _ (Array.getElem?_eq_some_iff.1 hrw).1).trans hrw)
                          have HKV := Lib.hid hkV
                          have HBV := Lib.hid hbV
                          have HIP := Lib.hid (fun W (h : Below V4.heap.size V4 W) => HPB.out W (same_of hbV h) (hkV.below h))
                          clear hqV hrw hkV hbV
                          go_loopw [224] (fun iv wr => ∃ j : Nat, j ≤ 3 ∧ iv = .int .i64 j ∧ Below V4.heap.size V4 wr) (fun iv _ => 3 - (intOf iv).toNat)
                          case atStart => exact ⟨0, by omega, rfl, Below.refl _ _⟩
                          case round =>
                            obtain ⟨j, hj, rfl, hbr⟩ := hrel
                            by_cases hlt4 : j < 3
                            · as_aux_lemma =>
                                have i4 : (j : Int) < 3 := by omega
                                have c0 := row_ints (HRW.out _ hbr) j (by rw [HL4.out]; exact hlt4)
                                generalize ns4[j]'(by rw [HL4.out]; exact hlt4) = nv at *
                                have hQC := (hbr.block Q (Array.getElem?_eq_some_iff.1 HQV.out).1).trans HQV.out
                                obtain ⟨⟨x0, x1⟩, -⟩ := row2 hQC
                                have hIp := HIP.out _ hbr
                                obtain ⟨⟨RS, LS, DS⟩, hMS⟩ : ∃ M, BM.setM Lp lp nv = M := ⟨_, rfl⟩
                                have HMS := Lib.hid hMS
                                have bwr := hbr
                                clear hMS hbr
                                go_wp2_with fail
                                clear x0 x1 c0
                                have Csp := pSet_any wr.heap.size (.agg #[.int .i64 Lp, .slice Ap lp.length cp]) Lp lp nv wr trivial hIp (Nat.le_refl _)
                                rw [HMS.out] at Csp
                                refine Csp.mono ?_
                                rintro e wsp ⟨usp, rfl, hosp, hrsp, bsp⟩
                                simp only at hosp hrsp
                                obtain ⟨Asp, csp, rfl⟩ : ∃ A c, usp = .slice A DS.length c := hosp.slice_
                                obtain ⟨Wsp, hWsp⟩ : ∃ W, W = wsp.alloc (.cells #[.int .i64 LS, .slice Asp DS.length csp] 25) := ⟨_, rfl⟩
                                have bWsp : Below V4.heap.size V4 Wsp := by rw [hWsp]; exact same_al (same_of bwr bsp)
                                have hQC_sp := row_next hQC bsp (.cells #[.int .i64 LS, .slice Asp DS.length csp] 25)
                                rw [← hWsp] at hQC_sp
                                obtain ⟨⟨y0, z0⟩, -⟩ := row2 ((bsp.block (Q) (Array.getElem?_eq_some_iff.1 hQC).1).trans hQC)
                                have s0 := Nat.lt_of_lt_of_le (Array.getElem?_eq_some_iff.1 hQC).1 bsp.size
                                have hIp_sp := bits_next hIp bsp (.cells #[.int .i64 LS, .slice Asp DS.length csp] 25)
                                rw [← hWsp] at hIp_sp
                                have hTsp : Wsp.heap[wsp.heap.size]? = some (.cells #[.int .i64 LS, .slice Asp DS.length csp] 25 (0, 0)) := by rw [hWsp]; exact heap_alloc_new wsp _
                                have hIsp : IsBits Wsp.heap.size Wsp (.agg #[.int .i64 LS, .slice Asp DS.length csp]) LS DS := by rw [hWsp]; exact made_next hosp hrsp _
                                have HWE := Lib.hid hWsp
                                clear Csp hWsp hosp hrsp bwr hQC hIp bsp
                                have hQC := hQC_sp
                                clear hQC_sp
                                have hIp := hIp_sp
                                clear hIp_sp
                                go_wp2_with fail
                                rw [← HWE.out]
                                clear HWE y0 z0 s0
                                generalize wsp.heap.size = Tsp at *
                                have Csr := rSet_any Wsp.heap.size (.agg #[.int .i64 Lp, .slice Ap lp.length cp]) Lp lp nv Wsp hIp (Nat.le_refl _)
                                rw [HMS.out] at Csr
                                refine Csr.mono ?_
                                rintro e wsr ⟨usr, rfl, hosr, hrsr, bsr⟩
                                simp only at hosr hrsr
                                obtain ⟨Asr, csr, rfl⟩ : ∃ A c, usr = .slice A DS.length c := hosr.slice_
                                obtain ⟨Wsr, hWsr⟩ : ∃ W, W = wsr.alloc (.cells #[.int .i64 LS, .slice Asr DS.length csr] 25) := ⟨_, rfl⟩
                                have bWsr : Below V4.heap.size V4 Wsr := by rw [hWsr]; exact same_al (same_of bWsp bsr)
                                have hQC_sr := row_next hQC bsr (.cells #[.int .i64 LS, .slice Asr DS.length csr] 25)
                                rw [← hWsr] at hQC_sr
                                obtain ⟨⟨y0, z0⟩, -⟩ := row2 ((bsr.block (Q) (Array.getElem?_eq_some_iff.1 hQC).1).trans hQC)
                                have s0 := Nat.lt_of_lt_of_le (Array.getElem?_eq_some_iff.1 hQC).1 bsr.size
                                have hTsp_sr := row_next hTsp bsr (.cells #[.int .i64 LS, .slice Asr DS.length csr] 25)
                                rw [← hWsr] at hTsp_sr
                                obtain ⟨⟨y1, z1⟩, -⟩ := row2 ((bsr.block (Tsp) (Array.getElem?_eq_some_iff.1 hTsp).1).trans hTsp)
                                have s1 := Nat.lt_of_lt_of_le (Array.getElem?_eq_some_iff.1 hTsp).1 bsr.size
                                have hIp_sr := bits_next hIp bsr (.cells #[.int .i64 LS, .slice Asr DS.length csr] 25)
                                rw [← hWsr] at hIp_sr
                                have hIsp_sr := bits_next hIsp bsr (.cells #[.int .i64 LS, .slice Asr DS.length csr] 25)
                                rw [← hWsr] at hIsp_sr
                                have hTsr : Wsr.heap[wsr.heap.size]? = some (.cells #[.int .i64 LS, .slice Asr DS.length csr] 25 (0, 0)) := by rw [hWsr]; exact heap_alloc_new wsr _
                                have hIsr : IsBits Wsr.heap.size Wsr (.agg #[.int .i64 LS, .slice Asr DS.length csr]) LS DS := by rw [hWsr]; exact made_next hosr hrsr _
                                have HWE := Lib.hid hWsr
                                clear Csr hWsr hosr hrsr bWsp hQC hTsp hIp hIsp bsr
                                have hQC := hQC_sr
                                clear hQC_sr
                                have hTsp := hTsp_sr
                                clear hTsp_sr
                                have hIp := hIp_sr
                                clear hIp_sr
                                have hIsp := hIsp_sr
                                clear hIsp_sr
                                go_wp2_with fail
                                rw [← HWE.out]
                                clear HWE y0 z0 s0 y1 z1 s1
                                generalize wsr.heap.size = Tsr at *
                                have HBR := Lib.hid (Below.refl Wsr.heap.size Wsr)
                                have HBW := Lib.hid bWsr
                                have HS0 := Lib.hid (fun W (h : Below Wsr.heap.size Wsr W) => same_self Wsr.heap.size _ _ LS DS W (hIsp.keep h) (hIsr.keep h) h.size)
                                have HH1 := Lib.hid (fun W (h : Below Wsr.heap.size Wsr W) => pHas_any Wsr.heap.size (.agg #[.int .i64 Lp, .slice Ap lp.length cp]) Lp lp nv W trivial (hIp.keep h) h.size)
                                have HH2 := Lib.hid (fun W (h : Below Wsr.heap.size Wsr W) => rHas_any Wsr.heap.size (.agg #[.int .i64 Lp, .slice Ap lp.length cp]) Lp lp nv W (hIp.keep h) h.size)
                                generalize BM.hasM Lp lp nv = hm at *
                                clear hIp hIsp hIsr bWsr
                                have xx0 : ∀ x : Grown Wsr, x.val.cell? ⟨Q, 0, none⟩ = some (.int .i64 Lp) := fun x => (row2 ((x.property.block (Q) (Array.getElem?_eq_some_iff.1 hQC).1).trans hQC)).1.1
                                have yy0 : ∀ x : Grown Wsr, x.val.cell? ⟨Q, 1, none⟩ = some (.slice Ap lp.length cp) := fun x => (row2 ((x.property.block (Q) (Array.getElem?_eq_some_iff.1 hQC).1).trans hQC)).1.2
                                have xx1 : ∀ x : Grown Wsr, x.val.cell? ⟨Tsp, 0, none⟩ = some (.int .i64 LS) := fun x => (row2 ((x.property.block (Tsp) (Array.getElem?_eq_some_iff.1 hTsp).1).trans hTsp)).1.1
                                have yy1 : ∀ x : Grown Wsr, x.val.cell? ⟨Tsp, 1, none⟩ = some (.slice Asp DS.length csp) := fun x => (row2 ((x.property.block (Tsp) (Array.getElem?_eq_some_iff.1 hTsp).1).trans hTsp)).1.2
                                have xx2 : ∀ x : Grown Wsr, x.val.cell? ⟨Tsr, 0, none⟩ = some (.int .i64 LS) := fun x => (row2 ((x.property.block (Tsr) (Array.getElem?_eq_some_iff.1 hTsr).1).trans hTsr)).1.1
                                have yy2 : ∀ x : Grown Wsr, x.val.cell? ⟨Tsr, 1, none⟩ = some (.slice Asr DS.length csr) := fun x => (row2 ((x.property.block (Tsr) (Array.getElem?_eq_some_iff.1 hTsr).1).trans hTsr)).1.2
                                refine wp_region_below (by kernel_rfl) (by kernel_rfl) ?_
                                repeat (go_big_quiet_step (fail))
                                go_big_quiet_step ((go_at_call 15; exact grown_call (HS0.out _ (Subtype.property _))))
                                repeat (go_big_quiet_step (fail))
                                go_big_quiet_step ((go_at_call 26; exact grown_call (HH1.out _ (Subtype.property _))))
                                repeat (go_big_quiet_step (fail))
                                go_big_quiet_step ((go_at_call 27; exact grown_call (HH2.out _ (Subtype.property _))))
                                repeat (go_big_quiet_step (fail))
                                refine wpQuiet_nil ?_
                                intro wz hC
                                have hrl3 := grown_out hC
                                clear hC xx0 yy0 xx1 yy1 xx2 yy2
                                have hend := Lib.hid (same_of HBW.out hrl3)
                                clear hrl3 hQC hTsp hTsr
                                go_wp2
                                exact ⟨⟨j + 1, by omega, by go_num, hend.out⟩, by simp [intOf]; omega⟩
                            · obtain rfl : j = 3 := by omega
                              as_aux_lemma =>
                                clear hlt4 hj
                                obtain ⟨W5, hW5⟩ : ∃ W, W = wr := ⟨_, rfl⟩
                                rw [← hW5] at hbr ⊢
                                clear hW5
                                have hQC := (hbr.block Q (Array.getElem?_eq_some_iff.1 HQV.out).1).trans HQV.out
                                obtain ⟨⟨x0, x1⟩, -⟩ := row2 hQC
                                have hIp := HIP.out _ hbr
                                obtain ⟨⟨RF, LF, DF⟩, hMF⟩ : ∃ M, BM.foldM Lp lp = M := ⟨_, rfl⟩
                                have HMF := Lib.hid hMF
                                obtain ⟨sx, cx, hx, hsx⟩ := hexM_form Lp lp
                                have hhex := Lib.hid hx
                                have bW5 := hbr
                                clear hMF hbr hx
                                go_wp2_with fail
                                clear x0 x1
                                have Cfp := pFold_any W5.heap.size (.agg #[.int .i64 Lp, .slice Ap lp.length cp]) Lp lp W5 trivial hIp (Nat.le_refl _)
                                rw [HMF.out] at Cfp
                                refine Cfp.mono ?_
                                rintro e wfp ⟨ufp, rfl, hofp, hrfp, bfp⟩
                                simp only at hofp hrfp
                                obtain ⟨Afp, cfp, rfl⟩ : ∃ A c, ufp = .slice A DF.length c := hofp.slice_
                                obtain ⟨Wfp, hWfp⟩ : ∃ W, W = wfp.alloc (.cells #[.int .i64 LF, .slice Afp DF.length cfp] 25) := ⟨_, rfl⟩
                                have bWfp : Below V4.heap.size V4 Wfp := by rw [hWfp]; exact same_al (same_of bW5 bfp)
                                have hQC_fp := row_next hQC bfp (.cells #[.int .i64 LF, .slice Afp DF.length cfp] 25)
                                rw [← hWfp] at hQC_fp
                                obtain ⟨⟨y0, z0⟩, -⟩ := row2 ((bfp.block (Q) (Array.getElem?_eq_some_iff.1 hQC).1).trans hQC)
                                have s0 := Nat.lt_of_lt_of_le (Array.getElem?_eq_some_iff.1 hQC).1 bfp.size
                                have hIp_fp := bits_next hIp bfp (.cells #[.int .i64 LF, .slice Afp DF.length cfp] 25)
                                rw [← hWfp] at hIp_fp
                                have hTfp : Wfp.heap[wfp.heap.size]? = some (.cells #[.int .i64 LF, .slice Afp DF.length cfp] 25 (0, 0)) := by rw [hWfp]; exact heap_alloc_new wfp _
                                have hIfp : IsBits Wfp.heap.size Wfp (.agg #[.int .i64 LF, .slice Afp DF.length cfp]) LF DF := by rw [hWfp]; exact made_next hofp hrfp _
                                have HWE := Lib.hid hWfp
                                clear Cfp hWfp hofp hrfp bW5 hQC hIp bfp
                                have hQC := hQC_fp
                                clear hQC_fp
                                have hIp := hIp_fp
                                clear hIp_fp
                                go_wp2_with fail
                                rw [← HWE.out]
                                clear HWE y0 z0 s0
                                generalize wfp.heap.size = Tfp at *
                                have Cfr := rFold_any Wfp.heap.size (.agg #[.int .i64 Lp, .slice Ap lp.length cp]) Lp lp Wfp hIp (Nat.le_refl _)
                                rw [HMF.out] at Cfr
                                refine Cfr.mono ?_
                                rintro e wfr ⟨ufr, rfl, hofr, hrfr, bfr⟩
                                simp only at hofr hrfr
                                obtain ⟨Afr, cfr, rfl⟩ : ∃ A c, ufr = .slice A DF.length c := hofr.slice_
                                obtain ⟨Wfr, hWfr⟩ : ∃ W, W = wfr.alloc (.cells #[.int .i64 LF, .slice Afr DF.length cfr] 25) := ⟨_, rfl⟩
                                have bWfr : Below V4.heap.size V4 Wfr := by rw [hWfr]; exact same_al (same_of bWfp bfr)
                                have hQC_fr := row_next hQC bfr (.cells #[.int .i64 LF, .slice Afr DF.length cfr] 25)
                                rw [← hWfr] at hQC_fr
                                obtain ⟨⟨y0, z0⟩, -⟩ := row2 ((bfr.block (Q) (Array.getElem?_eq_some_iff.1 hQC).1).trans hQC)
                                have s0 := Nat.lt_of_lt_of_le (Array.getElem?_eq_some_iff.1 hQC).1 bfr.size
                                have hTfp_fr := row_next hTfp bfr (.cells #[.int .i64 LF, .slice Afr DF.length cfr] 25)
                                rw [← hWfr] at hTfp_fr
                                obtain ⟨⟨y1, z1⟩, -⟩ := row2 ((bfr.block (Tfp) (Array.getElem?_eq_some_iff.1 hTfp).1).trans hTfp)
                                have s1 := Nat.lt_of_lt_of_le (Array.getElem?_eq_some_iff.1 hTfp).1 bfr.size
                                have hIp_fr := bits_next hIp bfr (.cells #[.int .i64 LF, .slice Afr DF.length cfr] 25)
                                rw [← hWfr] at hIp_fr
                                have hIfp_fr := bits_next hIfp bfr (.cells #[.int .i64 LF, .slice Afr DF.length cfr] 25)
                                rw [← hWfr] at hIfp_fr
                                have hTfr : Wfr.heap[wfr.heap.size]? = some (.cells #[.int .i64 LF, .slice Afr DF.length cfr] 25 (0, 0)) := by rw [hWfr]; exact heap_alloc_new wfr _
                                have hIfr : IsBits Wfr.heap.size Wfr (.agg #[.int .i64 LF, .slice Afr DF.length cfr]) LF DF := by rw [hWfr]; exact made_next hofr hrfr _
                                have HWE := Lib.hid hWfr
                                clear Cfr hWfr hofr hrfr bWfp hQC hTfp hIp hIfp bfr
                                have hQC := hQC_fr
                                clear hQC_fr
                                have hTfp := hTfp_fr
                                clear hTfp_fr
                                have hIp := hIp_fr
                                clear hIp_fr
                                have hIfp := hIfp_fr
                                clear hIfp_fr
                                go_wp2_with fail
                                rw [← HWE.out]
                                clear HWE y0 z0 s0 y1 z1 s1
                                generalize wfr.heap.size = Tfr at *
                                have Cha := pHex_any Wfr.heap.size (.agg #[.int .i64 Lp, .slice Ap lp.length cp]) Lp lp Wfr trivial hIp (Nat.le_refl _)
                                rw [hhex.out] at Cha
                                refine Cha.mono ?_
                                rintro e wha ⟨rfl, bha⟩
                                have bwha := same_of bWfr bha
                                have hQC_ha := (bha.block (Q) (Array.getElem?_eq_some_iff.1 hQC).1).trans hQC
                                have hTfp_ha := (bha.block (Tfp) (Array.getElem?_eq_some_iff.1 hTfp).1).trans hTfp
                                have hTfr_ha := (bha.block (Tfr) (Array.getElem?_eq_some_iff.1 hTfr).1).trans hTfr
                                have hIp_ha := (hIp.keep bha).more bha.size
                                have hIfp_ha := (hIfp.keep bha).more bha.size
                                have hIfr_ha := (hIfr.keep bha).more bha.size
                                clear Cha bWfr hQC hTfp hTfr hIp hIfp hIfr bha
                                have hQC := hQC_ha
                                clear hQC_ha
                                have hTfp := hTfp_ha
                                clear hTfp_ha
                                have hTfr := hTfr_ha
                                clear hTfr_ha
                                have hIp := hIp_ha
                                clear hIp_ha
                                have hIfp := hIfp_ha
                                clear hIfp_ha
                                have hIfr := hIfr_ha
                                clear hIfr_ha
                                obtain ⟨⟨y0, z0⟩, -⟩ := row2 hQC
                                go_wp2_with fail
                                clear y0 z0
                                have Chb := rHex_any wha.heap.size (.agg #[.int .i64 Lp, .slice Ap lp.length cp]) Lp lp wha hIp (Nat.le_refl _)
                                rw [hhex.out] at Chb
                                refine Chb.mono ?_
                                rintro e whb ⟨rfl, bhb⟩
                                have bwhb := same_of bwha bhb
                                have hQC_hb := (bhb.block (Q) (Array.getElem?_eq_some_iff.1 hQC).1).trans hQC
                                have hTfp_hb := (bhb.block (Tfp) (Array.getElem?_eq_some_iff.1 hTfp).1).trans hTfp
                                have hTfr_hb := (bhb.block (Tfr) (Array.getElem?_eq_some_iff.1 hTfr).1).trans hTfr
                                have hIp_hb := (hIp.keep bhb).more bhb.size
                                have hIfp_hb := (hIfp.keep bhb).more bhb.size
                                have hIfr_hb := (hIfr.keep bhb).more bhb.size
                                clear Chb bwha hQC hTfp hTfr hIp hIfp hIfr bhb
                                have hQC := hQC_hb
                                clear hQC_hb
                                have hTfp := hTfp_hb
                                clear hTfp_hb
                                have hTfr := hTfr_hb
                                clear hTfr_hb
                                have hIp := hIp_hb
                                clear hIp_hb
                                have hIfp := hIfp_hb
                                clear hIfp_hb
                                have hIfr := hIfr_hb
                                clear hIfr_hb
                                have HBW := Lib.hid bwhb
                                have HS0 := Lib.hid (fun W (h : Below whb.heap.size whb W) => same_self whb.heap.size _ _ LF DF W (hIfp.keep h) (hIfr.keep h) h.size)
                                have HV1 := Lib.hid (fun W (h : Below whb.heap.size whb W) => pValid_any whb.heap.size (.agg #[.int .i64 Lp, .slice Ap lp.length cp]) Lp lp W trivial (hIp.keep h) h.size)
                                have HV2 := Lib.hid (fun W (h : Below whb.heap.size whb W) => rValid_any whb.heap.size (.agg #[.int .i64 Lp, .slice Ap lp.length cp]) Lp lp W (hIp.keep h))
                                have HC1 := Lib.hid (fun W (h : Below whb.heap.size whb W) => pCount_any whb.heap.size (.agg #[.int .i64 Lp, .slice Ap lp.length cp]) Lp lp W trivial (hIp.keep h) h.size)
                                have HC2 := Lib.hid (fun W (h : Below whb.heap.size whb W) => rCount_any whb.heap.size (.agg #[.int .i64 Lp, .slice Ap lp.length cp]) Lp lp W (hIp.keep h) h.size)
                                generalize BM.okB Lp lp = vb at *
                                generalize BM.countM Lp lp = cb at *
                                clear hIp hIfp hIfr bwhb
                                go_wp2_with fail
                                have xx0 : ∀ x : Grown whb, x.val.cell? ⟨Q, 0, none⟩ = some (.int .i64 Lp) := fun x => (row2 ((x.property.block (Q) (Array.getElem?_eq_some_iff.1 hQC).1).trans hQC)).1.1
                                have yy0 : ∀ x : Grown whb, x.val.cell? ⟨Q, 1, none⟩ = some (.slice Ap lp.length cp) := fun x => (row2 ((x.property.block (Q) (Array.getElem?_eq_some_iff.1 hQC).1).trans hQC)).1.2
                                have xx1 : ∀ x : Grown whb, x.val.cell? ⟨Tfp, 0, none⟩ = some (.int .i64 LF) := fun x => (row2 ((x.property.block (Tfp) (Array.getElem?_eq_some_iff.1 hTfp).1).trans hTfp)).1.1
                                have yy1 : ∀ x : Grown whb, x.val.cell? ⟨Tfp, 1, none⟩ = some (.slice Afp DF.length cfp) := fun x => (row2 ((x.property.block (Tfp) (Array.getElem?_eq_some_iff.1 hTfp).1).trans hTfp)).1.2
                                have xx2 : ∀ x : Grown whb, x.val.cell? ⟨Tfr, 0, none⟩ = some (.int .i64 LF) := fun x => (row2 ((x.property.block (Tfr) (Array.getElem?_eq_some_iff.1 hTfr).1).trans hTfr)).1.1
                                have yy2 : ∀ x : Grown whb, x.val.cell? ⟨Tfr, 1, none⟩ = some (.slice Afr DF.length cfr) := fun x => (row2 ((x.property.block (Tfr) (Array.getElem?_eq_some_iff.1 hTfr).1).trans hTfr)).1.2
                                refine wp_region_below (by kernel_rfl) (by kernel_rfl) ?_
                                repeat (go_big_quiet_step (fail))
                                go_big_quiet_step ((go_at_call 15; exact grown_call (HS0.out _ (Subtype.property _))))
                                repeat (go_big_quiet_step (fail))
                                go_big_quiet_step ((go_at_call 32; exact grown_call (HV1.out _ (Subtype.property _))))
                                repeat (go_big_quiet_step (fail))
                                go_big_quiet_step ((go_at_call 33; exact grown_call (HV2.out _ (Subtype.property _))))
                                repeat (go_big_quiet_step (fail))
                                go_big_quiet_step ((go_at_call 34; exact grown_call (HC1.out _ (Subtype.property _))))
                                repeat (go_big_quiet_step (fail))
                                go_big_quiet_step ((go_at_call 35; exact grown_call (HC2.out _ (Subtype.property _))))
                                repeat (go_big_quiet_step (fail))
                                refine wpQuiet_nil ?_
                                intro wz hC
                                have hrl3 := grown_out hC
                                clear hC xx0 yy0 xx1 yy1 xx2 yy2
                                have hend := same_of HBW.out hrl3
                                clear hrl3 hQC hTfp hTfr HS0 HV1 HV2 HC1 HC2 HBW
                                have hc1 : ¬ (9223372036854775807 < sx.size + s.size) := by omega
                                have hc2 : ¬ (9223372036854775807 < sx.size + sx.size) := by omega
                                obtain ⟨ts, hts⟩ : ∃ ts : List ByteArray, ts = [s, sx, sx ++ s, sx ++ sx] := ⟨_, rfl⟩
                                have HTS := Lib.hid (show ts.length = 4 ∧ ∀ x ∈ ts, x.size ≤ 1000000 by
                                  rw [hts]
                                  refine ⟨rfl, fun x hx => ?_⟩
                                  simp only [List.mem_cons, List.not_mem_nil, or_false] at hx
                                  rcases hx with rfl | rfl | rfl | rfl
                                  · omega
                                  · omega
                                  · rw [size_add]; omega
                                  · rw [size_add]; omega)
                                have HTR := Lib.hid (show (ts.map Value.string).toArray = #[.string s, .string sx, .string (sx ++ s), .string (sx ++ sx)] by rw [hts]; rfl)
                                obtain ⟨V6, hV6⟩ : ∃ W, W = wz.alloc (.cells (ts.map Value.string).toArray 9) := ⟨_, rfl⟩
                                have b46 : Below V4.heap.size V4 V6 := by rw [hV6]; exact same_al hend
                                have hrt : V6.heap[wz.heap.size]? = some (.cells (ts.map Value.string).toArray 9 (0, 0)) := by rw [hV6]; exact heap_alloc_new wz _
                                have HB46 := Lib.hid b46
                                have HRT := Lib.hid (fun W (h : Below V6.heap.size V6 W) => (h.block _ (Array.getElem?_eq_some_iff.1 hrt).1).trans hrt)
                                have HV6 := Lib.hid hV6
                                clear hV6 hts b46 hrt hend
                                go_wp2_with fail
                                rw [← HTR.out, ← HV6.out]
                                clear HV6 hc1 hc2
                                generalize wz.heap.size = R6 at *
                                go_loopw [322] (fun iv wr => ∃ j : Nat, j ≤ 4 ∧ iv = .int .i64 j ∧ Below V6.heap.size V6 wr) (fun iv _ => 4 - (intOf iv).toNat)
                                case atStart => exact ⟨0, by omega, rfl, Below.refl _ _⟩
                                case round =>
                                  obtain ⟨j, hj, rfl, hbr⟩ := hrel
                                  by_cases hlt5 : j < 4
                                  · as_aux_lemma =>
                                      have i5 : (j : Int) < 4 := by omega
                                      have hjl : j < ts.length := by rw [HTS.out.1]; exact hlt5
                                      have c0 := row_texts (HRT.out _ hbr) j hjl
                                      have htz := HTS.out.2 ts[j] (List.getElem_mem _)
                                      generalize ts[j] = t at *
                                      obtain ⟨⟨RS, LS, DS⟩, hMS⟩ : ∃ M, BM.parseM t.data.toList = M := ⟨_, rfl⟩
                                      have HMS := Lib.hid hMS
                                      have bwr := hbr
                                      clear hMS hbr hjl
                                      go_wp2_with fail
                                      clear c0
                                      have Cpp := pParse_any t wr trivial htz
                                      rw [HMS.out] at Cpp
                                      refine Cpp.mono ?_
                                      rintro e wpp ⟨upp, rfl, hopp, hrpp, bpp⟩
                                      simp only at hopp hrpp
                                      obtain ⟨App, cpp, rfl⟩ : ∃ A c, upp = .slice A DS.length c := hopp.slice_
                                      obtain ⟨Wpp, hWpp⟩ : ∃ W, W = wpp.alloc (.cells #[.int .i64 LS, .slice App DS.length cpp] 25) := ⟨_, rfl⟩
                                      have bWpp : Below V6.heap.size V6 Wpp := by rw [hWpp]; exact same_al (same_of bwr bpp)
                                      have hTpp : Wpp.heap[wpp.heap.size]? = some (.cells #[.int .i64 LS, .slice App DS.length cpp] 25 (0, 0)) := by rw [hWpp]; exact heap_alloc_new wpp _
                                      have hIpp : IsBits Wpp.heap.size Wpp (.agg #[.int .i64 LS, .slice App DS.length cpp]) LS DS := by rw [hWpp]; exact made_next hopp hrpp _
                                      have HWE := Lib.hid hWpp
                                      clear Cpp hWpp hopp hrpp bwr bpp
                                      go_wp2_with fail
                                      rw [← HWE.out]
                                      clear HWE 
                                      generalize wpp.heap.size = Tpp at *
                                      have Cpr := rParse_any t Wpp htz
                                      rw [HMS.out] at Cpr
                                      refine Cpr.mono ?_
                                      rintro e wpr ⟨upr, rfl, hopr, hrpr, bpr⟩
                                      simp only at hopr hrpr
                                      obtain ⟨Apr, cpr, rfl⟩ : ∃ A c, upr = .slice A DS.length c := hopr.slice_
                                      obtain ⟨Wpr, hWpr⟩ : ∃ W, W = wpr.alloc (.cells #[.int .i64 LS, .slice Apr DS.length cpr] 25) := ⟨_, rfl⟩
                                      have bWpr : Below V6.heap.size V6 Wpr := by rw [hWpr]; exact same_al (same_of bWpp bpr)
                                      have hTpp_pr := row_next hTpp bpr (.cells #[.int .i64 LS, .slice Apr DS.length cpr] 25)
                                      rw [← hWpr] at hTpp_pr
                                      obtain ⟨⟨y0, z0⟩, -⟩ := row2 ((bpr.block (Tpp) (Array.getElem?_eq_some_iff.1 hTpp).1).trans hTpp)
                                      have s0 := Nat.lt_of_lt_of_le (Array.getElem?_eq_some_iff.1 hTpp).1 bpr.size
                                      have hIpp_pr := bits_next hIpp bpr (.cells #[.int .i64 LS, .slice Apr DS.length cpr] 25)
                                      rw [← hWpr] at hIpp_pr
                                      have hTpr : Wpr.heap[wpr.heap.size]? = some (.cells #[.int .i64 LS, .slice Apr DS.length cpr] 25 (0, 0)) := by rw [hWpr]; exact heap_alloc_new wpr _
                                      have hIpr : IsBits Wpr.heap.size Wpr (.agg #[.int .i64 LS, .slice Apr DS.length cpr]) LS DS := by rw [hWpr]; exact made_next hopr hrpr _
                                      have HWE := Lib.hid hWpr
                                      clear Cpr hWpr hopr hrpr bWpp hTpp hIpp bpr
                                      have hTpp := hTpp_pr
                                      clear hTpp_pr
                                      have hIpp := hIpp_pr
                                      clear hIpp_pr
                                      go_wp2_with fail
                                      rw [← HWE.out]
                                      clear HWE y0 z0 s0
                                      generalize wpr.heap.size = Tpr at *
                                      refine (same_self Wpr.heap.size _ _ LS DS Wpr hIpp hIpr (Nat.le_refl _)).mono ?_
                                      rintro e wc ⟨rfl, bc⟩
                                      have hend := Lib.hid (same_of bWpr bc)
                                      clear bc bWpr hIpp hIpr hTpp hTpr
                                      go_wp2
                                      exact ⟨⟨j + 1, by omega, by go_num, hend.out⟩, by simp [intOf]; omega⟩
                                  · obtain rfl : j = 4 := by omega
                                    clear hlt5 hj
                                    have b4 := same_of HB46.out hbr
                                    have hfb := Lib.hid (same_of HBV.out b4)
                                    have hfk := Lib.hid (HKV.out.below b4)
                                    clear b4 hbr
                                    go_wp2_with fail
                                    first
                                      | exact ⟨⟨k + 1, by omega, by go_num, hfb.out, hfk.out⟩, by simp [intOf]; omega⟩
                                      | (refine ⟨?_, ?hm⟩
                                         case hm => exact (show 2 - (intOf (.int .i64 ((k : Int) + 1))).toNat < 2 - (intOf (.int .i64 (k : Int))).toNat by simp [intOf]; omega)
                                         (repeat apply Exists.intro)
                                         refine ⟨?_, rfl⟩
                                         exact ⟨k + 1, by omega, by go_num, hfb.out, hfk.out⟩)
                · obtain rfl : k = 2 := by omega
                  clear hlt hk
                  go_wp2
                  go_ret
                  exact ⟨rfl, hbr⟩
        · have hgt3 : (600 : Int) < (s.size : Int) := by omega
          go_wp2_with fail
          refine (awake9_any w1 (HE.out _ bw1)).mono ?_
          rintro e wz ⟨rfl, bz⟩
          go_wp2
          go_ret
          exact ⟨rfl, same_of bw1 bz⟩
      · have hgt2 : (40 : Int) < (l2.length : Int) := by omega
        go_wp2_with fail
        refine (awake9_any w1 (HE.out _ bw1)).mono ?_
        rintro e wz ⟨rfl, bz⟩
        go_wp2
        go_ret
        exact ⟨rfl, same_of bw1 bz⟩
    · have hgt1 : (40 : Int) < (l1.length : Int) := by omega
      go_wp2_with fail
      refine (awake9_any w1 (HE.out _ bw1)).mono ?_
      rintro e wz ⟨rfl, bz⟩
      go_wp2
      go_ret
      exact ⟨rfl, same_of bw1 bz⟩
  · have hd : decide (n ≤ 400) = false := by simp [hn]
    rw [hd]
    clear hd
    go_wp2_with fail
    refine (awake9_any w1 (HE.out _ bw1)).mono ?_
    rintro e wz ⟨rfl, bz⟩
    go_wp2
    go_ret
    exact ⟨rfl, same_of bw1 bz⟩
end Go.Proofs.Ytfcnodiepdnegaa
