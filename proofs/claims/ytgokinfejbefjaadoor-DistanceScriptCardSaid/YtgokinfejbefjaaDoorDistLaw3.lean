/- Walks of DistanceScript and DistanceBounds. -/
import Derived.Test.YtgokinfejbefjaaDoorDistLaw2
namespace Go.Proofs.YtgokinfejbefjaaDoor
open Go.RowKit
set_option linter.unusedVariables false
set_option maxRecDepth 100000

theorem scN_small (a b : ByteArray) (ha : a.size ≤ 64) (hb : b.size ≤ 64) : scN a b = (scrN a b a.size b.size, 0) := by
  unfold scN
  rw [if_neg (by omega)]
theorem distB_turn (a b : ByteArray) : distB b a = distB a b := by
  unfold distB
  exact DM.dist_turn _ _
theorem distB_zero (a b : ByteArray) : distB a b = 0 ↔ a = b := by
  unfold distB
  rw [DM.dist_zero]
  exact ⟨fun h => ba_ext h, fun h => by rw [h]⟩
theorem distB_diff (a b : ByteArray) : a.size ≤ b.size + distB a b := by
  have := DM.dist_diff a.data.toList b.data.toList
  rw [size_list, size_list] at this
  exact this
theorem sim_facts (a b : ByteArray) (ha : a.size ≤ 64) (hb : b.size ≤ 64) : ∃ x, simN a b = (x, 0) ∧ x ≤ 1000 ∧ (x = 1000 ↔ a = b) := by
  have hm := distB_max a b
  have hz := distB_zero a b
  unfold simN
  rw [if_neg (by omega)]
  by_cases h0 : max a.size b.size = 0
  · rw [if_pos h0]
    refine ⟨1000, rfl, Nat.le_refl _, iff_of_true rfl ?_⟩
    exact hz.1 (by omega)
  · rw [if_neg h0]
    generalize distB a b = D at *
    generalize max a.size b.size = M at *
    refine ⟨_, rfl, ?_, ?_⟩
    · exact Nat.le_trans (Nat.div_le_div_right (Nat.mul_le_mul_left 1000 (Nat.sub_le M D))) (by rw [Nat.mul_div_cancel _ (by omega)]; exact Nat.le_refl _)
    · rw [← hz]
      constructor
      · intro h
        have h1 : 1000 * M ≤ 1000 * (M - D) := by
          have := Nat.div_mul_le_self (1000 * (M - D)) M
          rw [h] at this
          exact this
        omega
      · intro h
        rw [h, Nat.sub_zero, Nat.mul_div_cancel _ (by omega)]
theorem toList_eq (a b : ByteArray) : (a.toList == b.toList) = decide (a = b) := by
  rw [Bool.eq_iff_iff]
  simp only [beq_iff_eq, decide_eq_true_eq]
  constructor
  · intro h
    apply ba_ext
    rw [← Lib.toList_data, ← Lib.toList_data, h]
  · intro h
    rw [h]

set_option maxHeartbeats 4000000 in
theorem DistanceScript_walk (A : Option Addr) (n c : Nat) (w : World) (hE : SEnv w) (hI : IntsArg w A n c) :
    Calls Tryd.prog 5 #[.slice A n c] w fun e w' => e = .returned (.bool true) ∧ Below w.heap.size w w' := by
  have HE := Lib.hid hE
  have HI := Lib.hid hI
  clear hE hI
  go_enter Tryd.func5, Tryd.ntmps5
  go_wp2_with fail
  refine (awake7_any w HE.out).mono ?_
  rintro e w1 ⟨rfl, b1⟩
  go_wp2_with fail
  refine (Few_any A n c w1 (Nat.le_trans HI.out.1 HI.out.2.1)).mono ?_
  rintro e w1' ⟨rfl, rfl⟩
  by_cases hn : n ≤ 400
  · have hd : decide (n ≤ 400) = true := by simp [hn]
    rw [hd]
    clear hd
    go_wp2_with fail
    refine (New_any A n c w1 (HI.out.below b1)).mono ?_
    rintro e w2 ⟨rfl, hd2, b2⟩
    generalize hg : w1.heap.size = g at *
    have HG := Lib.hid hg
    clear hg
    have hgw : w.heap.size ≤ g := by rw [← HG.out]; exact b1.size
    have b2' : Below w.heap.size w w2 := b1.trans (b2.mono hgw)
    go_wp2_with fail
    refine (Token_any g w2 hd2).mono ?_
    rintro e w3 ⟨ta, rfl, hta, hd3, g3⟩
    have b3 : Below w.heap.size w w3 := b2'.trans (di_below g3 hgw hd2.lt)
    have za := low_size hta
    clear hta hd2 g3
    go_wp2_with fail
    refine (bent_any g w3 hd3 ta 4 (by omega) (by omega)).mono ?_
    rintro e w4 ⟨t1, rfl, z1, hd4, g4⟩
    have b4 : Below w.heap.size w w4 := b3.trans (di_below g4 hgw hd3.lt)
    go_wp2_with fail
    refine (Token_any g w4 hd4).mono ?_
    rintro e w5 ⟨t2, rfl, ht2, hd5, g5⟩
    have b5 : Below w.heap.size w w5 := b4.trans (di_below g5 hgw hd4.lt)
    have z2 := low_size ht2
    clear ht2 hd3 hd4 g4 g5
    go_wp2_with fail
    refine (Pick_lit g w5 [t1, t2] hd5 (by simp) (by simp)).mono ?_
    rintro e w6 ⟨tb, hp, rfl, hd6, g6⟩
    have b6 : Below w.heap.size w w6 := b5.trans (di_below g6 hgw hd5.lt)
    have zb : tb.size ≤ 12 := by
      simp only [List.mem_cons, List.not_mem_nil, or_false] at hp
      rcases hp with rfl | rfl <;> omega
    clear hp z1 z2 hd5 hd6 g6
    have H1 := Lib.hid (fun W hW => Edit_is ta tb _ (editN_small ta tb (by omega) (by omega)) W hW (by unfold maxLen; omega) (by unfold maxLen; omega))
    have H2 := Lib.hid (fun W hW => Script_is ta tb _ (scN_small ta tb (by omega) (by omega)) W hW (by unfold maxLen; omega) (by unfold maxLen; omega))
    have hlen := scrN_len ta tb
    have hap := script_ap ta tb (by omega) (by omega)
    have hpr := script_pr ta tb (by omega) (by omega)
    have hdm := distB_max ta tb
    generalize scrN ta tb ta.size tb.size = L at *
    generalize distB ta tb = D at *
    subst hlen
    go_wp2_with fail
    refine (H1.out w6 (HE.out.below b6 (Nat.le_refl _))).mono ?_
    rintro e w7 ⟨rfl, c7⟩
    have b7 : Below w.heap.size w w7 := b6.trans (c7.mono b6.size)
    go_wp2_with fail
    refine (H2.out w7 (HE.out.below b7 (Nat.le_refl _))).mono ?_
    rintro e w8 ⟨v, rfl, hC, c8⟩
    have b8 : Below w.heap.size w w8 := b7.trans (c8.mono b7.size)
    have H3 := Lib.hid (fun W (hW : Below w8.heap.size w8 W) => Apply_any w8.heap.size ta v L W (by unfold maxLen; omega) (hC.keep hW) hW.size (by omega))
    unfold apV at H3
    rw [hap] at H3
    have H4 := Lib.hid (fun W (hW : Below w8.heap.size w8 W) => Proves_is w8.heap.size ta tb v L true hpr W (by unfold maxLen; omega) (hC.keep hW) hW.size (by omega))
    obtain ⟨A', cap', rfl, -, -, -⟩ := hC
    clear hap hpr
    go_wp2_with fail
    refine (H3.out w8 (Below.refl _ _)).mono ?_
    rintro e w9 ⟨rfl, c9⟩
    have b9 : Below w.heap.size w w9 := b8.trans (c9.mono b8.size)
    go_wp2_with fail
    refine (H4.out w9 c9).mono ?_
    rintro e w10 ⟨rfl, c10⟩
    have b10 := b9.trans (c10.mono b9.size)
    go_wp2
    go_ret
    exact ⟨rfl, b10⟩
  · have hd : decide (n ≤ 400) = false := by simp [hn]
    rw [hd]
    clear hd
    go_wp2_with fail
    refine (awake7_any w1 (HE.out.below b1 (Nat.le_refl _))).mono ?_
    rintro e w2 ⟨rfl, b2⟩
    go_wp2
    go_ret
    exact ⟨rfl, b1.trans (b2.mono b1.size)⟩

set_option maxHeartbeats 4000000 in
theorem DistanceBounds_walk (A : Option Addr) (n c : Nat) (w : World) (hE : SEnv w) (hI : IntsArg w A n c) :
    Calls Tryd.prog 6 #[.slice A n c] w fun e w' => e = .returned (.bool true) ∧ Below w.heap.size w w' := by
  have HE := Lib.hid hE
  have HI := Lib.hid hI
  clear hE hI
  go_enter Tryd.func6, Tryd.ntmps6
  go_wp2_with fail
  refine (awake7_any w HE.out).mono ?_
  rintro e w1 ⟨rfl, b1⟩
  go_wp2_with fail
  refine (Few_any A n c w1 (Nat.le_trans HI.out.1 HI.out.2.1)).mono ?_
  rintro e w1' ⟨rfl, rfl⟩
  by_cases hn : n ≤ 400
  · have hd : decide (n ≤ 400) = true := by simp [hn]
    rw [hd]
    clear hd
    go_wp2_with fail
    refine (New_any A n c w1 (HI.out.below b1)).mono ?_
    rintro e w2 ⟨rfl, hd2, b2⟩
    generalize hg : w1.heap.size = g at *
    have HG := Lib.hid hg
    clear hg
    have hgw : w.heap.size ≤ g := by rw [← HG.out]; exact b1.size
    have b2' : Below w.heap.size w w2 := b1.trans (b2.mono hgw)
    go_wp2_with fail
    refine (Token_any g w2 hd2).mono ?_
    rintro e w3 ⟨ta, rfl, hta, hd3, g3⟩
    have b3 : Below w.heap.size w w3 := b2'.trans (di_below g3 hgw hd2.lt)
    have za := low_size hta
    clear hta hd2 g3
    go_wp2_with fail
    refine (bent_any g w3 hd3 ta 4 (by omega) (by omega)).mono ?_
    rintro e w4 ⟨t1, rfl, z1, hd4, g4⟩
    have b4 : Below w.heap.size w w4 := b3.trans (di_below g4 hgw hd3.lt)
    go_wp2_with fail
    refine (Token_any g w4 hd4).mono ?_
    rintro e w5 ⟨t2, rfl, ht2, hd5, g5⟩
    have b5 : Below w.heap.size w w5 := b4.trans (di_below g5 hgw hd4.lt)
    have z2 := low_size ht2
    clear ht2 hd3 hd4 g4 g5
    go_wp2_with fail
    refine (Pick_lit g w5 [t1, t2, ta] hd5 (by simp) (by simp)).mono ?_
    rintro e w6 ⟨tb, hp, rfl, hd6, g6⟩
    have b6 : Below w.heap.size w w6 := b5.trans (di_below g6 hgw hd5.lt)
    have zb : tb.size ≤ 12 := by
      simp only [List.mem_cons, List.not_mem_nil, or_false] at hp
      rcases hp with rfl | rfl | rfl <;> omega
    clear hp z1 z2 hd5 hd6 g6
    have H1 := Lib.hid (fun W hW => Edit_is ta tb _ (editN_small ta tb (by omega) (by omega)) W hW (by unfold maxLen; omega) (by unfold maxLen; omega))
    have H2 := Lib.hid (fun W hW => Edit_is tb ta _ (editN_small tb ta (by omega) (by omega)) W hW (by unfold maxLen; omega) (by unfold maxLen; omega))
    rw [distB_turn] at H2
    obtain ⟨x, hx, hx1, hx2⟩ := sim_facts ta tb (by omega) (by omega)
    have H3 := Lib.hid (fun W hW => Similar_any ta tb W hW (by unfold maxLen; omega) (by unfold maxLen; omega))
    unfold simV at H3
    rw [hx] at H3
    have hz := distB_zero ta tb
    have hdm := distB_max ta tb
    have hd1 := distB_diff ta tb
    have hd2 := distB_diff tb ta
    rw [distB_turn] at hd2
    generalize distB ta tb = D at *
    obtain ⟨M, hM⟩ : ∃ M, M = max ta.size tb.size := ⟨_, rfl⟩
    obtain ⟨N, hN⟩ : ∃ N, N = min ta.size tb.size := ⟨_, rfl⟩
    have hmx := fun (W : World) (ts : Array TypeId) (ty : TypeId) => max2 (W := W) ts ty (ta.size : Int) (tb.size : Int) M (by omega)
    have hmn := fun (W : World) (ts : Array TypeId) (ty : TypeId) => min2 (W := W) ts ty (ta.size : Int) (tb.size : Int) N (by omega)
    have f1 : (D : Int) ≤ (M : Int) := by omega
    have f2 : (M : Int) - (N : Int) ≤ (D : Int) := by omega
    have f3 : (x : Int) ≤ 1000 := by omega
    have f4 : (0 : Int) ≤ (x : Int) := by omega
    have hM12 : M ≤ 12 := by omega
    have hN12 : N ≤ 12 := by omega
    have hD12 : D ≤ 12 := by omega
    have e1 : ((D : Int) == 0) = decide (ta = tb) := by rw [Bool.eq_iff_iff]; simp; rw [← hz]
    have e2 : ((x : Int) == 1000) = decide (ta = tb) := by rw [Bool.eq_iff_iff]; simp; rw [← hx2]; omega
    have e3 : (ta.toList == tb.toList) = decide (ta = tb) := toList_eq ta tb
    generalize decide (ta = tb) = E at *
    clear hM hN hx hx1 hx2 hz hdm hd1 hd2 zb za
    go_wp2_with fail
    refine (H1.out w6 (HE.out.below b6 (Nat.le_refl _))).mono ?_
    rintro e w7 ⟨rfl, c7⟩
    have b7 : Below w.heap.size w w7 := b6.trans (c7.mono b6.size)
    go_wp2_with fail
    refine (H2.out w7 (HE.out.below b7 (Nat.le_refl _))).mono ?_
    rintro e w8 ⟨rfl, c8⟩
    have b8 : Below w.heap.size w w8 := b7.trans (c8.mono b7.size)
    go_wp2_with fail
    refine (H3.out w8 (HE.out.below b8 (Nat.le_refl _))).mono ?_
    rintro e w9 ⟨rfl, c9⟩
    have b9 : Below w.heap.size w w9 := b8.trans (c9.mono b8.size)
    go_wp2
    go_ret
    exact ⟨rfl, b9⟩
  · have hd : decide (n ≤ 400) = false := by simp [hn]
    rw [hd]
    clear hd
    go_wp2_with fail
    refine (awake7_any w1 (HE.out.below b1 (Nat.le_refl _))).mono ?_
    rintro e w2 ⟨rfl, b2⟩
    go_wp2
    go_ret
    exact ⟨rfl, b1.trans (b2.mono b1.size)⟩
end Go.Proofs.YtgokinfejbefjaaDoor
