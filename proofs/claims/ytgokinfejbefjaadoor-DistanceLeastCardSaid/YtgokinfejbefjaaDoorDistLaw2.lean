/- Walks of DistanceEnds and DistanceLeast. -/
import Derived.Test.YtgokinfejbefjaaDoorDistLaw1
namespace Go.Proofs.YtgokinfejbefjaaDoor
open Go.RowKit
set_option linter.unusedVariables false
set_option maxRecDepth 100000

theorem di_below {w w' : World} {g B : Nat} (h : w.grownBy w' (some g)) (hB : B ≤ g) (hg : g < w.heap.size) : Below B w w' := below_of_grown h hB (by omega)
theorem editN_small (a b : ByteArray) (ha : a.size ≤ 64) (hb : b.size ≤ 64) : editN a b = (distB a b, 0) := by
  unfold editN
  rw [if_neg (by omega)]
theorem distB_ends (p q a b : ByteArray) : distB (p ++ a ++ q) (p ++ b ++ q) ≤ distB a b := by
  unfold distB
  rw [data_add, data_add, data_add, data_add]
  exact DM.dist_ends _ _ _ _

set_option maxHeartbeats 4000000 in
theorem DistanceEnds_walk (A : Option Addr) (n c : Nat) (w : World) (hE : SEnv w) (hI : IntsArg w A n c) :
    Calls Tryd.prog 7 #[.slice A n c] w fun e w' => e = .returned (.bool true) ∧ Below w.heap.size w w' := by
  have HE := Lib.hid hE
  have HI := Lib.hid hI
  clear hE hI
  go_enter Tryd.func7, Tryd.ntmps7
  go_wp2_with fail
  refine (awake7_any w HE.out).mono ?_
  rintro e w1 ⟨rfl, b1⟩
  go_wp2_with fail
  refine (Few_any A n c w1 (Nat.le_trans HI.out.1 HI.out.2.1)).mono ?_
  rintro e w1' ⟨rfl, rfl⟩
  by_cases hn : n ≤ 400
  · have hd : decide (n ≤ 400) = true := by simp [hn]
    rw [hd]
    clear hd
    go_wp2_with fail
    refine (New_any A n c w1 (HI.out.below b1)).mono ?_
    rintro e w2 ⟨rfl, hd2, b2⟩
    generalize hg : w1.heap.size = g at *
    have HG := Lib.hid hg
    clear hg
    have hgw : w.heap.size ≤ g := by rw [← HG.out]; exact b1.size
    have b2' : Below w.heap.size w w2 := b1.trans (b2.mono hgw)
    go_wp2_with fail
    refine (Token_any g w2 hd2).mono ?_
    rintro e w3 ⟨ta, rfl, hta, hd3, g3⟩
    have b3 : Below w.heap.size w w3 := b2'.trans (di_below g3 hgw hd2.lt)
    go_wp2_with fail
    refine (Token_any g w3 hd3).mono ?_
    rintro e w4 ⟨tb, rfl, htb, hd4, g4⟩
    have b4 : Below w.heap.size w w4 := b3.trans (di_below g4 hgw hd3.lt)
    have za := low_size hta
    have zb := low_size htb
    clear hta htb hd2 hd3 g3 g4
    go_wp2_with fail
    refine (Pick_lit g w4 [⟨#[]⟩, ⟨#[120]⟩, ⟨#[97, 98]⟩] hd4 (by decide) (by decide)).mono ?_
    rintro e w5 ⟨tp, hp, rfl, hd5, g5⟩
    have b5 : Below w.heap.size w w5 := b4.trans (di_below g5 hgw hd4.lt)
    have zp : tp.size ≤ 2 := by
      have : ∀ x ∈ ([⟨#[]⟩, ⟨#[120]⟩, ⟨#[97, 98]⟩] : List ByteArray), x.size ≤ 2 := by decide
      exact this tp hp
    clear hp
    go_wp2_with fail
    refine (Pick_lit g w5 [⟨#[]⟩, ⟨#[122]⟩, ⟨#[97, 97]⟩] hd5 (by decide) (by decide)).mono ?_
    rintro e w6 ⟨tq, hq, rfl, hd6, g6⟩
    have b6 : Below w.heap.size w w6 := b5.trans (di_below g6 hgw hd5.lt)
    have zq : tq.size ≤ 2 := by
      have : ∀ x ∈ ([⟨#[]⟩, ⟨#[122]⟩, ⟨#[97, 97]⟩] : List ByteArray), x.size ≤ 2 := by decide
      exact this tq hq
    clear hq hd4 hd5 hd6 g5 g6
    have s1 : (tp ++ ta ++ tq).size ≤ 12 := by rw [size_add, size_add]; omega
    have s2 : (tp ++ tb ++ tq).size ≤ 12 := by rw [size_add, size_add]; omega
    have H1 := Lib.hid (fun W hW => Edit_is ta tb _ (editN_small ta tb (by omega) (by omega)) W hW (by unfold maxLen; omega) (by unfold maxLen; omega))
    have H2 := Lib.hid (fun W hW => Edit_is (tp ++ ta ++ tq) (tp ++ tb ++ tq) _ (editN_small _ _ (by omega) (by omega)) W hW (by unfold maxLen; omega) (by unfold maxLen; omega))
    have hle := distB_ends tp tq ta tb
    clear s1 s2
    have q1 : ¬ (9223372036854775807 < tp.size + ta.size) := by omega
    have q2 : ¬ (9223372036854775807 < tp.size + tb.size) := by omega
    have q3 : ¬ (9223372036854775807 < tp.size + ta.size + tq.size) := by omega
    have q4 : ¬ (9223372036854775807 < tp.size + tb.size + tq.size) := by omega
    go_wp2_with fail
    refine (H1.out w6 (HE.out.below b6 (Nat.le_refl _))).mono ?_
    rintro e w7 ⟨rfl, c7⟩
    have b7 : Below w.heap.size w w7 := b6.trans (c7.mono b6.size)
    clear c7
    go_wp2_with fail
    refine (H2.out w7 (HE.out.below b7 (Nat.le_refl _))).mono ?_
    rintro e w8 ⟨rfl, c8⟩
    have b8 : Below w.heap.size w w8 := b7.trans (c8.mono b7.size)
    clear c8
    have hlei : (distB (tp ++ ta ++ tq) (tp ++ tb ++ tq) : Int) ≤ (distB ta tb : Int) := by omega
    go_wp2
    go_ret
    exact ⟨rfl, b8⟩
  · have hd : decide (n ≤ 400) = false := by simp [hn]
    rw [hd]
    clear hd
    go_wp2_with fail
    refine (awake7_any w1 (HE.out.below b1 (Nat.le_refl _))).mono ?_
    rintro e w2 ⟨rfl, b2⟩
    go_wp2
    go_ret
    exact ⟨rfl, b1.trans (b2.mono b1.size)⟩

set_option maxHeartbeats 4000000 in
theorem DistanceLeast_walk (A : Option Addr) (n c : Nat) (w : World) (hE : SEnv w) (hI : IntsArg w A n c) :
    Calls Tryd.prog 4 #[.slice A n c] w fun e w' => e = .returned (.bool true) ∧ Below w.heap.size w w' := by
  have HE := Lib.hid hE
  have HI := Lib.hid hI
  clear hE hI
  go_enter Tryd.func4, Tryd.ntmps4
  go_wp2_with fail
  refine (awake7_any w HE.out).mono ?_
  rintro e w1 ⟨rfl, b1⟩
  go_wp2_with fail
  refine (Few_any A n c w1 (Nat.le_trans HI.out.1 HI.out.2.1)).mono ?_
  rintro e w1' ⟨rfl, rfl⟩
  by_cases hn : n ≤ 400
  · have hd : decide (n ≤ 400) = true := by simp [hn]
    rw [hd]
    clear hd
    go_wp2_with fail
    refine (New_any A n c w1 (HI.out.below b1)).mono ?_
    rintro e w2 ⟨rfl, hd2, b2⟩
    generalize hg : w1.heap.size = g at *
    have HG := Lib.hid hg
    clear hg
    have hgw : w.heap.size ≤ g := by rw [← HG.out]; exact b1.size
    have b2' : Below w.heap.size w w2 := b1.trans (b2.mono hgw)
    go_wp2_with fail
    refine (Token_any g w2 hd2).mono ?_
    rintro e w3 ⟨ta, rfl, hta, hd3, g3⟩
    have b3 : Below w.heap.size w w3 := b2'.trans (di_below g3 hgw hd2.lt)
    have za := low_size hta
    clear hta hd2 g3
    go_wp2_with fail
    refine (Pick_lit g w3 [⟨#[]⟩, ⟨#[97, 97, 98]⟩, ⟨#[97, 98, 97, 98]⟩] hd3 (by decide) (by decide)).mono ?_
    rintro e w4 ⟨tp, hp, rfl, hd4, g4⟩
    have b4 : Below w.heap.size w w4 := b3.trans (di_below g4 hgw hd3.lt)
    have zp : tp.size ≤ 4 := by
      have : ∀ x ∈ ([⟨#[]⟩, ⟨#[97, 97, 98]⟩, ⟨#[97, 98, 97, 98]⟩] : List ByteArray), x.size ≤ 4 := by decide
      exact this tp hp
    clear hp hd3 g4
    have q1 : ¬ (9223372036854775807 < ta.size + tp.size) := by omega
    obtain ⟨S, hS⟩ : ∃ S, S = ta ++ tp := ⟨_, rfl⟩
    have zs : S.size ≤ 12 := by rw [hS, size_add]; omega
    go_wp2_with fail
    rw [← hS]
    clear hS
    refine (some_any g w4 hd4 S 6 (by omega) (by omega)).mono ?_
    rintro e w5 ⟨v, rfl, ⟨L, hL⟩, hd5, g5⟩
    have b5 : Below w.heap.size w w5 := b4.trans (di_below g5 hgw hd4.lt)
    have hlen := hL.len
    have hap := apN_some S L (by omega) (by omega) hL.ord_ hL.right_
    have hal := ap_len S L hL.ord_ hL.right_
    have hle := DM.least S.data.toList L hL.ord_ (by rw [size_list]; exact hL.right_)
    obtain ⟨T, hT⟩ : ∃ T, T = bs (DM.ap S.data.toList L) := ⟨_, rfl⟩
    have zt : T.size ≤ 18 := by have : T.size = (DM.ap S.data.toList L).length := by rw [hT]; rfl
                                omega
    have hle2 : distB S T ≤ L.length := by unfold distB; rw [hT]; exact hle
    rw [← hT] at hap
    have hpr : prB S T L = true := by unfold prB; rw [hap]; simp
    have H1 := Lib.hid (fun W (hW : Below w5.heap.size w5 W) => Apply_any w5.heap.size S v L W (by unfold maxLen; omega) (hL.is_.keep hW) hW.size (by omega))
    unfold apV at H1
    rw [hap] at H1
    have H2 := Lib.hid (fun W hW => Edit_is S T _ (editN_small S T (by omega) (by omega)) W hW (by unfold maxLen; omega) (by unfold maxLen; omega))
    have H3 := Lib.hid (fun W (hW : Below w5.heap.size w5 W) => Proves_is w5.heap.size S T v L true hpr W (by unfold maxLen; omega) (hL.is_.keep hW) hW.size (by omega))
    obtain ⟨A', cap', rfl, -, -, -⟩ := hL.is_
    clear hL hap hal hle hT hpr hd4 hd5 g5
    go_wp2_with fail
    refine (H1.out w5 (Below.refl _ _)).mono ?_
    rintro e w6 ⟨rfl, c6⟩
    have b6 : Below w.heap.size w w6 := b5.trans (c6.mono b5.size)
    go_wp2_with fail
    refine (H2.out w6 (HE.out.below b6 (Nat.le_refl _))).mono ?_
    rintro e w7 ⟨rfl, c7⟩
    have b7 : Below w.heap.size w w7 := b6.trans (c7.mono b6.size)
    have c57 := c6.trans (c7.mono c6.size)
    have hlei : (distB S T : Int) ≤ (L.length : Int) := by omega
    go_wp2_with fail
    refine (H3.out w7 c57).mono ?_
    rintro e w8 ⟨rfl, c8⟩
    go_wp2
    go_ret
    exact ⟨rfl, b7.trans (c8.mono b7.size)⟩
  · have hd : decide (n ≤ 400) = false := by simp [hn]
    rw [hd]
    clear hd
    go_wp2_with fail
    refine (awake7_any w1 (HE.out.below b1 (Nat.le_refl _))).mono ?_
    rintro e w2 ⟨rfl, b2⟩
    go_wp2
    go_ret
    exact ⟨rfl, b1.trans (b2.mono b1.size)⟩
end Go.Proofs.YtgokinfejbefjaaDoor
