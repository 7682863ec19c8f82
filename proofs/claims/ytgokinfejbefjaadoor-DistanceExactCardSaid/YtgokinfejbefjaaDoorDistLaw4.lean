/- The walk of DistanceExact. -/
import Derived.Test.YtgokinfejbefjaaDoorDistLaw3
import Derived.Deep.RegionHeld3
namespace Go.Proofs.YtgokinfejbefjaaDoor
open Go.RowKit
set_option linter.unusedVariables false
set_option maxRecDepth 100000

theorem scN_le (a b : ByteArray) : (scN a b).1.length ≤ 64 := by
  unfold scN
  split
  · exact Nat.zero_le _
  · rw [scrN_len]
    have := distB_max a b
    omega
/-- What two calls in one region keep: the two texts in block P, and what lies below. -/
structure XS (w WB : World) (P : Nat) (p q : ByteArray) (W : World) : Prop where
  c0 : W.cell? ⟨P, 0, none⟩ = some (.string p)
  c1 : W.cell? ⟨P, 1, none⟩ = some (.string q)
  bel : Below WB.heap.size WB W
theorem XS.drew {w WB : World} {P : Nat} {p q : ByteArray} {W : World} (h : XS w WB P p q W) : XS w WB P p q W.drew := ⟨h.c0, h.c1, h.bel.drew⟩
theorem XS.below {w WB : World} {P : Nat} {p q : ByteArray} {W W' : World} (h : XS w WB P p q W) (hb : Below W.heap.size W W') : XS w WB P p q W' :=
  ⟨(hb.cell (p := ⟨P, 0, none⟩) (World.block_lt_of_cell? _ _ h.c0)).trans h.c0, (hb.cell (p := ⟨P, 1, none⟩) (World.block_lt_of_cell? _ _ h.c1)).trans h.c1, h.bel.trans (hb.mono h.bel.size)⟩

set_option maxHeartbeats 16000000 in
theorem DistanceExact_walk (A : Option Addr) (n c : Nat) (sa sb : ByteArray) (va : Value) (cs : List DM.Ch) (w : World) (hE : SEnv w) (hI : IntsArg w A n c) (hsa : sa.size ≤ maxLen) (hsb : sb.size ≤ maxLen) (hcs : IsChs w.heap.size w va cs) :
    Calls Tryd.prog 3 #[.slice A n c, .string sa, .string sb, va] w fun e w' => e = .returned (.bool true) ∧ Below w.heap.size w w' := by
  have HE := Lib.hid hE
  have HI := Lib.hid hI
  have HCS := Lib.hid hcs
  obtain ⟨Ad, cap, rfl, hcl, hcm, -, -⟩ := hcs
  clear hE hI
  unfold maxLen at hsa hsb hcm
  go_enter Tryd.func3, Tryd.ntmps3
  go_wp2_with fail
  refine (awake7_any w HE.out).mono ?_
  rintro e w1 ⟨rfl, b1⟩
  go_wp2_with fail
  refine (Few_any A n c w1 (Nat.le_trans HI.out.1 HI.out.2.1)).mono ?_
  rintro e w1' ⟨rfl, rfl⟩
  by_cases hn : n ≤ 400
  · have hd : decide (n ≤ 400) = true := by simp [hn]
    rw [hd]
    clear hd
    by_cases ha70 : sa.size ≤ 70
    · have q1 : ¬ (70 : Int) < (sa.size : Int) := by omega
      by_cases hb70 : sb.size ≤ 70
      · have q2 : ¬ (70 : Int) < (sb.size : Int) := by omega
        by_cases hc100 : cs.length ≤ 100
        · have q3 : ¬ (100 : Int) < (cs.length : Int) := by omega
          go_wp2_with fail
          refine (New_any A n c w1 (HI.out.below b1)).mono ?_
          rintro e w2 ⟨rfl, hd2, b2⟩
          generalize hg : w1.heap.size = g at *
          have HG := Lib.hid hg
          clear hg
          have hgw : w.heap.size ≤ g := by rw [← HG.out]; exact b1.size
          have b2' : Below w.heap.size w w2 := b1.trans (b2.mono hgw)
          go_wp2_with fail
          refine (Token_any g w2 hd2).mono ?_
          rintro e w3 ⟨x, rfl, hx, hd3, g3⟩
          have b3 : Below w.heap.size w w3 := b2'.trans (di_below g3 hgw hd2.lt)
          have zx := low_size hx
          clear hx hd2 g3
          go_wp2_with fail
          refine (bent_any g w3 hd3 x 3 (by omega) (by omega)).mono ?_
          rintro e w4 ⟨y, rfl, zy, hd4, g4⟩
          have b4 : Below w.heap.size w w4 := b3.trans (di_below g4 hgw hd3.lt)
          have r1 : ¬ (9223372036854775807 < x.size + sa.size) := by omega
          have r2 : ¬ (9223372036854775807 < y.size + sb.size) := by omega
          clear hd3 hd4 g4
          have b5 : Below w.heap.size w (w4.alloc (.cells #[.string sa, .string sb, .string x, .string y, .string sa, .string x, .string (x ++ sa), .string (y ++ sb)] 30)) := b4.alloc b4.size _
          have HB5 := Lib.hid b5
          have hs4 := b4.size
          have HPS := Lib.hid (show ∀ k, k < 4 → ∃ p q : ByteArray, p.size ≤ 1000 ∧ q.size ≤ 1000 ∧
              (w4.alloc (.cells #[.string sa, .string sb, .string x, .string y, .string sa, .string x, .string (x ++ sa), .string (y ++ sb)] 30)).cell? ⟨w4.heap.size, k * 2, none⟩ = some (.string p) ∧
              (w4.alloc (.cells #[.string sa, .string sb, .string x, .string y, .string sa, .string x, .string (x ++ sa), .string (y ++ sb)] 30)).cell? ⟨w4.heap.size, k * 2 + 1, none⟩ = some (.string q) by
            intro k hk
            obtain rfl | rfl | rfl | rfl : k = 0 ∨ k = 1 ∨ k = 2 ∨ k = 3 := by omega
            · exact ⟨sa, sb, by omega, by omega, new_cell w4 _ _ 0 _ rfl, new_cell w4 _ _ 1 _ rfl⟩
            · exact ⟨x, y, by omega, by omega, new_cell w4 _ _ 2 _ rfl, new_cell w4 _ _ 3 _ rfl⟩
            · exact ⟨sa, x, by omega, by omega, new_cell w4 _ _ 4 _ rfl, new_cell w4 _ _ 5 _ rfl⟩
            · exact ⟨x ++ sa, y ++ sb, by rw [size_add]; omega, by rw [size_add]; omega, new_cell w4 _ _ 6 _ rfl, new_cell w4 _ _ 7 _ rfl⟩)
          have HR0 := Lib.hid (Below.refl (w4.heap.size + 1) (w4.alloc (.cells #[.string sa, .string sb, .string x, .string y, .string sa, .string x, .string (x ++ sa), .string (y ++ sb)] 30)))
          clear b5 zx zy
          go_wp2
          obtain ⟨W5, hW5⟩ : ∃ W, W = w4.alloc (.cells #[.string sa, .string sb, .string x, .string y, .string sa, .string x, .string (x ++ sa), .string (y ++ sb)] 30) := ⟨_, rfl⟩
          rw [← hW5] at HB5 HPS HR0
          rw [← hW5]
          have hs5 : W5.heap.size = w4.heap.size + 1 := by rw [hW5]; simp
          have HS5 := Lib.hid hs5
          have hs5' : w4.heap.size + 1 ≤ W5.heap.size := by omega
          clear hW5 r1 r2 hs5
          go_loopw [80] (fun kv wr => ∃ k : Nat, k ≤ 4 ∧ kv = .int .i64 k ∧ Below (w4.heap.size + 1) W5 wr ∧ Below w.heap.size w wr) (fun kv _ => 4 - (intOf kv).toNat)
          case atStart => exact ⟨0, by omega, rfl, HR0.out, HB5.out⟩
          case round =>
            obtain ⟨k, hk, rfl, hbr, hbw⟩ := hrel
            by_cases hk4 : k < 4
            · obtain ⟨p, q, hp, hq, x0, x1⟩ := HPS.out k hk4
              have k0 := (hbr.cell (p := ⟨w4.heap.size, _, none⟩) (Nat.lt_succ_self _)).trans x0
              have k1 := (hbr.cell (p := ⟨w4.heap.size, _, none⟩) (Nat.lt_succ_self _)).trans x1
              have i1 : (k : Int) < 4 := by omega
              clear x0 x1
              have HB6 := Lib.hid (hbw.alloc hbw.size (.cells #[.string p, .string q] 30))
              have hsr := hbr.size
              have HB7 := Lib.hid (hbr.alloc (by omega) (.cells #[.string p, .string q] 30))
              have hz0 := new_cell wr #[.string p, .string q] 30 0 (.string p) rfl
              have hz1 := new_cell wr #[.string p, .string q] 30 1 (.string q) rfl
              obtain ⟨WA, hWA⟩ : ∃ W, W = wr.alloc (.cells #[.string p, .string q] 30) := ⟨_, rfl⟩
              have hsA : WA.heap.size = wr.heap.size + 1 := by rw [hWA]; simp
              rw [← hWA] at HB6 HB7 hz0 hz1
              have HZ := Lib.hid (fun W (h : Below WA.heap.size WA W) => And.intro ((h.cell (p := ⟨wr.heap.size, 0, none⟩) (by show wr.heap.size < WA.heap.size; omega)).trans hz0) ((h.cell (p := ⟨wr.heap.size, 1, none⟩) (by show wr.heap.size < WA.heap.size; omega)).trans hz1))
              have HEN := Lib.hid (fun W (h : Below WA.heap.size WA W) => HE.out.below (HB6.out.trans (h.mono HB6.out.size)) (Nat.le_refl _))
              have zp : p.size ≤ maxLen := by unfold maxLen; omega
              have zq : q.size ≤ maxLen := by unfold maxLen; omega
              have H1 := Lib.hid (fun W hW => Edit_any p q W hW zp zq)
              have H2 := Lib.hid (fun W => rEdit_any p q W zp zq)
              have H3 := Lib.hid (fun W hW => Script_any p q W hW zp zq)
              have H4 := Lib.hid (fun W => rScript_any p q W zp zq)
              have H5 := Lib.hid (fun W hW => Similar_any p q W hW zp zq)
              have H6 := Lib.hid (fun W => rSimilar_any p q W zp zq)
              unfold editV at H1 H2
              unfold simV at H5 H6
              have hL64 := scN_le p q
              generalize editN p q = EE at H1 H2
              generalize simN p q = SS at H5 H6
              generalize scN p q = CC at H3 H4 hL64
              obtain ⟨e1, e2⟩ := EE
              obtain ⟨s1, s2⟩ := SS
              obtain ⟨L, l2⟩ := CC
              simp only at H1 H2 H3 H4 H5 H6 hL64
              clear zp zq
              have y0 := HZ.out WA (Below.refl _ _)
              obtain ⟨y0a, y0b⟩ := y0
              go_wp2_with fail
              rw [← hWA]
              clear hWA k0 k1 hz0 hz1
              refine (H1.out WA (HEN.out _ (Below.refl _ _))).mono ?_
              rintro e u1 ⟨rfl, d1⟩
              obtain ⟨y1a, y1b⟩ := HZ.out u1 d1
              have D1 := Lib.hid d1
              go_wp2_with fail
              refine (H2.out u1).mono ?_
              rintro e u2 ⟨rfl, d2⟩
              have D2 := Lib.hid (d1.trans (d2.mono d1.size))
              obtain ⟨y2a, y2b⟩ := HZ.out u2 D2.out
              clear d1 d2 y0a y0b
              go_wp2_with fail
              refine (H3.out u2 (HEN.out _ D2.out)).mono ?_
              rintro e u3 ⟨v1, rfl, hC1, d3⟩
              have D3 := Lib.hid (D2.out.trans (d3.mono D2.out.size))
              obtain ⟨y3a, y3b⟩ := HZ.out u3 D3.out
              clear d3 y1a y1b
              go_wp2_with fail
              refine (H4.out u3).mono ?_
              rintro e u4 ⟨v2, rfl, hC2, d4⟩
              have D4 := Lib.hid (D3.out.trans (d4.mono D3.out.size))
              obtain ⟨y4a, y4b⟩ := HZ.out u4 D4.out
              have C1 := Lib.hid ((hC1.keep d4).more d4.size)
              have C2 := Lib.hid hC2
              obtain ⟨A2, cp2, rfl, -, -, -⟩ := hC2
              clear d4 hC1 y2a y2b
              go_wp2_with fail
              refine (H5.out u4 (HEN.out _ D4.out)).mono ?_
              rintro e u5 ⟨rfl, d5⟩
              have D5 := Lib.hid (D4.out.trans (d5.mono D4.out.size))
              have D45 := Lib.hid d5
              obtain ⟨y5a, y5b⟩ := HZ.out u5 D5.out
              clear d5 y3a y3b
              go_wp2_with fail
              refine (H6.out u5).mono ?_
              rintro e u6 ⟨rfl, d6⟩
              have D6 := Lib.hid (D5.out.trans (d6.mono D5.out.size))
              have D46 := Lib.hid (D45.out.trans (d6.mono D45.out.size))
              obtain ⟨y6a, y6b⟩ := HZ.out u6 D6.out
              have HSM := Lib.hid (rSameC_any u4.heap.size v1 _ L L u6 (C1.out.keep D46.out) (C2.out.keep D46.out) D46.out.size)
              have hsm : sameCB L L = true := by unfold sameCB; simp
              rw [hsm] at HSM
              clear d6 y4a y4b hsm D45
              go_wp2_with fail
              refine HSM.out.mono ?_
              rintro e u7 ⟨rfl, d7⟩
              have D7 := Lib.hid (D6.out.trans (d7.mono D6.out.size))
              have D47 := Lib.hid (D46.out.trans (d7.mono D46.out.size))
              obtain ⟨y7a, y7b⟩ := HZ.out u7 D7.out
              clear d7 y5a y5b y6a y6b HSM H1 H2 H3 H4 H5 H6
              go_wp2
              have D8 := Lib.hid (D7.out.alloc D7.out.size (.cells #[.slice Ad cs.length cap, .slice A2 L.length cp2] 23))
              have D48 := Lib.hid (D47.out.alloc D47.out.size (.cells #[.slice Ad cs.length cap, .slice A2 L.length cp2] 23))
              have HKEY := Lib.hid (show ∀ j, j < 2 → ∃ A3 c3 Lc, (u7.alloc (.cells #[.slice Ad cs.length cap, .slice A2 L.length cp2] 23)).cell? ⟨u7.heap.size, j, none⟩ = some (.slice A3 (Lc : List DM.Ch).length c3) ∧
                  IsChs u7.heap.size (u7.alloc (.cells #[.slice Ad cs.length cap, .slice A2 L.length cp2] 23)) (.slice A3 Lc.length c3) Lc ∧ Lc.length ≤ 1000 by
                intro j hj
                obtain rfl | rfl : j = 0 ∨ j = 1 := by omega
                · exact ⟨Ad, cap, cs, new_cell u7 _ _ 0 _ rfl, (HCS.out.keep (HB6.out.trans (D8.out.mono HB6.out.size))).more (Nat.le_trans HB6.out.size D7.out.size), by omega⟩
                · exact ⟨A2, cp2, L, new_cell u7 _ _ 1 _ rfl, (C2.out.keep D48.out).more D47.out.size, by omega⟩)
              have hs7 := D7.out.size
              obtain ⟨WB, hWB⟩ : ∃ W, W = u7.alloc (.cells #[.slice Ad cs.length cap, .slice A2 L.length cp2] 23) := ⟨_, rfl⟩
              have hsB : WB.heap.size = u7.heap.size + 1 := by rw [hWB]; simp
              rw [← hWB] at D8 D48 HKEY
              rw [← hWB]
              have HR7 := Lib.hid (Below.refl WB.heap.size WB)
              clear hWB D48 y7a y7b
              have HB8 := Lib.hid (HB6.out.trans (D8.out.mono HB6.out.size))
              have HB9 := Lib.hid (HB7.out.trans (D8.out.mono (by omega)))
              generalize wr.heap.size = P at *
              generalize u7.heap.size = SB at *
              go_loopw [165] (fun jv wi => ∃ j : Nat, j ≤ 2 ∧ jv = .int .i64 j ∧ Below WB.heap.size WB wi) (fun jv _ => 2 - (intOf jv).toNat)
              case atStart => exact ⟨0, by omega, rfl, HR7.out⟩
              case round =>
                obtain ⟨j, hj, rfl, hbi⟩ := hrel
                by_cases hj2 : j < 2
                · obtain ⟨A3, c3, Lc, hk1, hk2, hk3⟩ := HKEY.out j hj2
                  have kc := (hbi.cell (p := ⟨SB, j, none⟩) (by show SB < WB.heap.size; omega)).trans hk1
                  have i2 : (j : Int) < 2 := by omega
                  have zp : p.size ≤ maxLen := by unfold maxLen; omega
                  have HK2 := Lib.hid hk2
                  have A1 := Lib.hid (fun W (h : Below WB.heap.size WB W) => Apply_any SB p _ Lc W zp (HK2.out.keep (h.mono (by omega))) (by have := h.size; omega) (by omega))
                  have A2 := Lib.hid (fun W (h : Below WB.heap.size WB W) => rApply_any SB p _ Lc W zp (HK2.out.keep (h.mono (by omega))) (by have := h.size; omega) (by omega))
                  have P1 := Lib.hid (fun W (h : Below WB.heap.size WB W) => Proves_any SB p q _ Lc W zp (HK2.out.keep (h.mono (by omega))) (by have := h.size; omega) (by omega))
                  have P2 := Lib.hid (fun W (h : Below WB.heap.size WB W) => rProves_any SB p q _ Lc W zp (HK2.out.keep (h.mono (by omega))) (by have := h.size; omega) (by omega))
                  unfold apV at A1 A2
                  generalize apN p Lc = AA at A1 A2
                  generalize prB p q Lc = PB at P1 P2
                  obtain ⟨S, E⟩ := AA
                  simp only at A1 A2
                  clear zp hk1 hk2
                  obtain ⟨y8a, y8b⟩ := HZ.out wr (D8.out.trans (hbi.mono D8.out.size))
                  go_wp2_with fail
                  refine (A1.out wr hbi).mono ?_
                  rintro e u8 ⟨rfl, d8⟩
                  have hbi8 := hbi.trans (d8.mono hbi.size)
                  obtain ⟨y9a, y9b⟩ := HZ.out u8 (D8.out.trans (hbi8.mono D8.out.size))
                  go_wp2_with fail
                  refine (A2.out u8 hbi8).mono ?_
                  rintro e u9 ⟨rfl, d9⟩
                  have hbi9 := hbi8.trans (d9.mono hbi8.size)
                  obtain ⟨z0, z1⟩ := HZ.out u9 (D8.out.trans (hbi9.mono D8.out.size))
                  have HX0 := Lib.hid (show XS w WB P p q u9 from ⟨z0, z1, hbi9⟩)
                  clear d8 d9 hbi hbi8 hbi9 y8a y8b y9a y9b kc A1 A2
                  go_wp2_with fail
                  have hst := HX0.out.drew
                  go_region_held3 (fun w' => w'.cell? ⟨P, 0, none⟩ = some (.string p) ∧ w'.cell? ⟨P, 1, none⟩ = some (.string q))
                    (first | go_keep | exact ⟨hst.c0, hst.c1⟩)
                    (first
                      | (go_at_call 22
                         refine (P1.out _ hst.bel).mono ?_
                         rintro e u ⟨rfl, bu⟩
                         have hst := hst.below bu)
                      | (go_at_call 23
                         refine (P2.out _ hst.bel).mono ?_
                         rintro e u ⟨rfl, bu⟩
                         have hst := hst.below bu))
                  rename_i hHeld
                  clear hHeld z0 z1
                  have BZ := Lib.hid hst.bel
                  clear hst
                  go_wp2
                  exact ⟨⟨j + 1, by omega, by go_num, BZ.out⟩, by simp [intOf]; omega⟩
                · obtain rfl : j = 2 := by omega
                  go_wp2
                  exact ⟨⟨k + 1, by omega, by go_num, HB9.out.trans (hbi.mono (by have := HB9.out.size; omega)), HB8.out.trans (hbi.mono HB8.out.size)⟩, by simp [intOf]; omega⟩
            · obtain rfl : k = 4 := by omega
              go_wp2
              go_ret
              exact ⟨rfl, hbw⟩
        · have q3 : (100 : Int) < (cs.length : Int) := by omega
          go_wp2_with fail
          refine (awake7_any w1 (HE.out.below b1 (Nat.le_refl _))).mono ?_
          rintro e w2 ⟨rfl, b2⟩
          go_wp2
          go_ret
          exact ⟨rfl, b1.trans (b2.mono b1.size)⟩
      · have q2 : (70 : Int) < (sb.size : Int) := by omega
        go_wp2_with fail
        refine (awake7_any w1 (HE.out.below b1 (Nat.le_refl _))).mono ?_
        rintro e w2 ⟨rfl, b2⟩
        go_wp2
        go_ret
        exact ⟨rfl, b1.trans (b2.mono b1.size)⟩
    · have q1 : (70 : Int) < (sa.size : Int) := by omega
      go_wp2_with fail
      refine (awake7_any w1 (HE.out.below b1 (Nat.le_refl _))).mono ?_
      rintro e w2 ⟨rfl, b2⟩
      go_wp2
      go_ret
      exact ⟨rfl, b1.trans (b2.mono b1.size)⟩
  · have hd : decide (n ≤ 400) = false := by simp [hn]
    rw [hd]
    clear hd
    go_wp2_with fail
    refine (awake7_any w1 (HE.out.below b1 (Nat.le_refl _))).mono ?_
    rintro e w2 ⟨rfl, b2⟩
    go_wp2
    go_ret
    exact ⟨rfl, b1.trans (b2.mono b1.size)⟩
end Go.Proofs.YtgokinfejbefjaaDoor
