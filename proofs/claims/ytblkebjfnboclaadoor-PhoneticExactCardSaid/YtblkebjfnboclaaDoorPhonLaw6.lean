/- The walk of PhoneticExact. -/
import Derived.Test.YtblkebjfnboclaaDoorPhonLaw3
namespace Go.Proofs.YtblkebjfnboclaaDoor
open Go.RowKit
set_option linter.unusedVariables false
set_option maxRecDepth 100000

theorem ph_short {xs : List ByteArray} (h : shortB xs = true) : ∀ x ∈ xs, x.size ≤ 200 := by
  intro x hx
  unfold shortB at h
  have := List.all_eq_true.1 h x hx
  simpa using this
theorem rSoundex_is (s v : ByteArray) (h : sxB s = v) (w : World) :
    Calls Tryd.prog 16 #[.string s] w fun e w' => e = .returned (.string v) ∧ Below w.heap.size w w' := by
  subst h
  exact rSoundex_any s w

theorem str_cells (w : World) (xs : List ByteArray) (h : ∀ x ∈ xs, x.size ≤ 200) (j : Nat) (hj : j < xs.length) : ∃ T : ByteArray, (w.alloc (.cells (xs.map Value.string).toArray 9)).cell? ⟨w.heap.size, j, none⟩ = some (.string T) ∧ T.size ≤ 200 := by
  refine ⟨xs[j], ?_, h _ (List.getElem_mem hj)⟩
  rw [cell_of_row _ _ _ _ _ _ (heap_alloc_new w _)]
  simp [hj]

set_option maxHeartbeats 8000000 in
theorem PhoneticExact_walk (A : Option Addr) (n c : Nat) (s t : ByteArray) (w : World) (hE : Env w) (hI : IntsArg w A n c) (hs : s.size ≤ maxLen) (ht : t.size ≤ maxLen) :
    Calls Tryd.prog 3 #[.slice A n c, .string s, .string t] w fun e w' => e = .returned (.bool true) ∧ Below w.heap.size w w' := by
  have HE := Lib.hid hE
  have HI := Lib.hid hI
  clear hE hI
  unfold maxLen at hs ht
  go_enter Tryd.func3, Tryd.ntmps3
  go_wp2_with fail
  refine (awake6_any w HE.out).mono ?_
  rintro e w1 ⟨rfl, b1⟩
  go_wp2_with fail
  refine (Few_any A n c w1 (Nat.le_trans HI.out.1 HI.out.2.1)).mono ?_
  rintro e w1' ⟨rfl, rfl⟩
  have hE1 := Lib.hid (HE.out.below b1 HE.out.size)
  by_cases hn : n ≤ 400
  · have hd : decide (n ≤ 400) = true := by simp [hn]
    rw [hd]
    clear hd
    go_wp2_with fail
    refine (Short_any _ _ [s, t] _ (texts_lit w1 [s, t] (by unfold maxLen; simp))).mono ?_
    rintro e w2 ⟨rfl, rfl⟩
    have b2 : Below w.heap.size w (w1.alloc (.cells ([s, t].map Value.string).toArray 9)) := b1.alloc b1.size _
    generalize w1.alloc (.cells ([s, t].map Value.string).toArray 9) = w2 at *
    have hE2 := Lib.hid (HE.out.below b2 HE.out.size)
    cases hsh : shortB [s, t]
    · clear hsh
      go_wp2_with fail
      refine (awake6_any _ hE2.out).mono ?_
      rintro e wz ⟨rfl, bz⟩
      go_wp2
      go_ret
      exact ⟨rfl, b2.trans (bz.mono b2.size)⟩
    · have h200 := ph_short hsh
      have hs2 : s.size ≤ 200 := h200 s (by simp)
      have ht2 : t.size ≤ 200 := h200 t (by simp)
      clear hsh h200
      go_wp2_with fail
      refine (New_any A n c w2 (HI.out.below b2)).mono ?_
      rintro e w3 ⟨rfl, hd3, b3⟩
      generalize hg : w2.heap.size = g at *
      have HG := Lib.hid hg
      clear hg
      have hgw : w.heap.size ≤ g := by rw [← HG.out]; exact b2.size
      have b3' : Below w.heap.size w w3 := b2.trans (b3.mono hgw)
      go_wp2_with fail
      refine (Token_any g w3 hd3).mono ?_
      rintro e w4 ⟨ta, rfl, hta, hd4, g4⟩
      have b4 : Below w.heap.size w w4 := b3'.trans (ph_below g4 hgw hd3.lt)
      go_wp2_with fail
      refine (Token_any g w4 hd4).mono ?_
      rintro e w5 ⟨tb, rfl, htb, hd5, g5⟩
      have b5 : Below w.heap.size w w5 := b4.trans (ph_below g5 hgw hd4.lt)
      have za := (low_tok hta).2.2
      have zb := (low_tok htb).2.2
      clear hta htb
      have q1 : ¬ (9223372036854775807 < ta.size + tb.size) := by omega
      obtain ⟨X, hX⟩ : ∃ X, ta ++ tb = X := ⟨_, rfl⟩
      have zx : X.size ≤ 16 := by rw [← hX, size_add]; omega
      go_wp2_with fail
      refine (Token_any g w5 hd5).mono ?_
      rintro e w6 ⟨tc, rfl, htc, hd6, g6⟩
      have b6 : Below w.heap.size w w6 := b5.trans (ph_below g6 hgw hd5.lt)
      go_wp2_with fail
      refine (Token_any g w6 hd6).mono ?_
      rintro e w7 ⟨td, rfl, htd, hd7, g7⟩
      have b7 : Below w.heap.size w w7 := b6.trans (ph_below g7 hgw hd6.lt)
      have zc := (low_tok htc).2.2
      have zd := (low_tok htd).2.2
      clear htc htd hd3 hd4 hd5 hd6 hd7 g4 g5 g6 g7 hX
      obtain ⟨Y, hY⟩ : ∃ Y, td ++ ⟨#[32]⟩ ++ X = Y := ⟨_, rfl⟩
      have zq : Y.size ≤ 200 := by rw [← hY, size_add, size_add]; show td.size + 1 + X.size ≤ 200; omega
      go_wp2_with fail
      have hs7 : w7.heap.size < (w7.alloc (.cells #[.string s, .string t, .string X, .string tc, .string Y] 9)).heap.size := by simp
      have bV : Below w7.heap.size w7 (w7.alloc (.cells #[.string s, .string t, .string X, .string tc, .string Y] 9)) := (Below.refl _ w7).alloc (Nat.le_refl _) _
      have HC5 := Lib.hid (show ∀ j, j < 5 → ∃ T : ByteArray, (w7.alloc (.cells #[.string s, .string t, .string X, .string tc, .string Y] 9)).cell? ⟨w7.heap.size, j, none⟩ = some (.string T) ∧ T.size ≤ 200 from
        str_cells w7 [s, t, X, tc, Y] (by simp; omega))
      generalize w7.alloc (.cells #[.string s, .string t, .string X, .string tc, .string Y] 9) = V at *
      have cV : Below w.heap.size w V := b7.trans (bV.mono b7.size)
      generalize hq : w7.heap.size = q7 at *
      have HQ7 := Lib.hid hq
      clear hq hY q1 zc zd
      go_loopw [47] (fun i wr => ∃ j : Nat, j ≤ 5 ∧ i = .int .i64 j ∧ Below V.heap.size V wr) (fun i _ => 5 - (intOf i).toNat)
      case atStart => exact ⟨0, by omega, rfl, Below.refl _ _⟩
      case round =>
        obtain ⟨j, hj, rfl, hbr⟩ := hrel
        have brw : Below w.heap.size w wr := cV.trans (hbr.mono cV.size)
        by_cases hlt : j < 5
        · obtain ⟨T, hT, zT⟩ := HC5.out j hlt
          have hcj := (hbr.cell (p := ⟨q7, j, none⟩) hs7).trans hT
          clear hT
          have t0 : decide ((j : Int) < 5) = true := by simp; omega
          obtain ⟨W0, hW0⟩ : ∃ W, W = wr := ⟨_, rfl⟩
          rw [← hW0] at hbr brw hcj ⊢
          clear hW0
          go_wp2_with fail
          have hs8 : W0.heap.size < (W0.alloc (.cells #[.string s, .string t, .string X] 9)).heap.size := by simp
          have bU : Below W0.heap.size W0 (W0.alloc (.cells #[.string s, .string t, .string X] 9)) := (Below.refl _ W0).alloc (Nat.le_refl _) _
          have HC3 := Lib.hid (show ∀ l, l < 3 → ∃ T : ByteArray, (W0.alloc (.cells #[.string s, .string t, .string X] 9)).cell? ⟨W0.heap.size, l, none⟩ = some (.string T) ∧ T.size ≤ 200 from
            str_cells W0 [s, t, X] (by simp; omega))
          generalize W0.alloc (.cells #[.string s, .string t, .string X] 9) = U at *
          have cU : Below w.heap.size w U := brw.trans (bU.mono brw.size)
          have bVU : Below V.heap.size V U := hbr.trans (bU.mono hbr.size)
          generalize hq : W0.heap.size = q8 at *
          have HQ8 := Lib.hid hq
          clear hq
          go_loopw [56] (fun i wz => ∃ l : Nat, l ≤ 3 ∧ i = .int .i64 l ∧ Below U.heap.size U wz) (fun i _ => 3 - (intOf i).toNat)
          case atStart => exact ⟨0, by omega, rfl, Below.refl _ _⟩
          case round =>
            obtain ⟨l, hl, rfl, hbz⟩ := hrel
            have bzw : Below w.heap.size w wr := cU.trans (hbz.mono cU.size)
            have bVz : Below V.heap.size V wr := bVU.trans (hbz.mono bVU.size)
            by_cases hll : l < 3
            · obtain ⟨B, hB, zB⟩ := HC3.out l hll
              have hcl := (hbz.cell (p := ⟨q8, l, none⟩) hs8).trans hB
              clear hB
              have K1 := Lib.hid (pSame_any T B wr (HE.out.below bzw HE.out.size) (by omega) (by omega))
              have K2 := Lib.hid (fun W => rpSame_any T B W (by omega) (by omega))
              generalize smB T B = M at *
              go_wp2_with fail
              refine K1.out.mono ?_
              rintro e x1 ⟨rfl, d1⟩
              go_wp2_with fail
              refine (K2.out x1).mono ?_
              rintro e x2 ⟨rfl, d2⟩
              have d3 := d1.trans (d2.mono d1.size)
              go_wp2
              exact ⟨⟨l + 1, by omega, by go_num, hbz.trans (d3.mono hbz.size)⟩, by simp [intOf]; omega⟩
            · have K1 := Lib.hid (fun W => Soundex_any T W)
              have K2 := Lib.hid (fun W => rSoundex_any T W)
              have K3 := Lib.hid (fun W => Skeleton_any T W)
              have K4 := Lib.hid (fun W => rSkeleton_any T W)
              have K5 := Lib.hid (fun W hW => Key_any T W hW (by omega))
              have K6 := Lib.hid (fun W => rKey_any T W (by omega))
              generalize sxB T = M1 at *
              generalize skB T = M2 at *
              generalize kyB T = M3 at *
              go_wp2_with fail
              refine (K1.out _).mono ?_
              rintro e x1 ⟨rfl, d1⟩
              go_wp2_with fail
              refine (K2.out _).mono ?_
              rintro e x2 ⟨rfl, d2⟩
              have D2 := d1.trans (d2.mono d1.size)
              go_wp2_with fail
              refine (K3.out _).mono ?_
              rintro e x3 ⟨rfl, d3⟩
              have D3 := D2.trans (d3.mono D2.size)
              go_wp2_with fail
              refine (K4.out _).mono ?_
              rintro e x4 ⟨rfl, d4⟩
              have D4 := D3.trans (d4.mono D3.size)
              have HE4 := HE.out.below (bzw.trans (D4.mono bzw.size)) HE.out.size
              go_wp2_with fail
              refine (K5.out _ HE4).mono ?_
              rintro e x5 ⟨rfl, d5⟩
              have D5 := D4.trans (d5.mono D4.size)
              go_wp2_with fail
              refine (K6.out _).mono ?_
              rintro e x6 ⟨rfl, d6⟩
              have D6 := D5.trans (d6.mono D5.size)
              go_wp2
              exact ⟨⟨j + 1, by omega, by go_num, bVz.trans (D6.mono bVz.size)⟩, by simp [intOf]; omega⟩
        · go_wp2
          go_ret
          exact ⟨rfl, brw⟩
  · have hd : decide (n ≤ 400) = false := by simp [hn]
    rw [hd]
    clear hd
    go_wp2_with fail
    refine (awake6_any w1 hE1.out).mono ?_
    rintro e w2 ⟨rfl, b2⟩
    go_wp2
    go_ret
    exact ⟨rfl, b1.trans (b2.mono b1.size)⟩
end Go.Proofs.YtblkebjfnboclaaDoor
