/- AddressZeros. -/
import Derived.Test.YthplnfblpdojkaaDoorAddrAwake
namespace Go.Proofs.YthplnfblpdojkaaDoor
open Go.RowKit
set_option linter.unusedVariables false
set_option maxRecDepth 100000

theorem none_rules (B : Nat) (w : World) : IsRules B w (.agg #[.slice none 0 0, .slice none 0 0, .slice none 0 0]) rNone := ⟨_, _, _, rfl, texts_nil _ _, pairs_nil _ _, pairs_nil _ _⟩
theorem zer_size : ∀ n ∈ zerL, n.size ≤ 2 := fun n hn => (zer_all n hn).2.2.2

set_option maxRecDepth 100000 in
set_option maxHeartbeats 2000000 in
theorem AddressZeros_walk (A : Option Addr) (n c : Nat) (z : Int) (hz0 : 0 ≤ z) (hz1 : z < 256) (w : World) (hE : Env w) (hI : IntsArg w A n c) :
    Calls Tryd.prog 5 #[.slice A n c, .int .u8 z] w fun e w' => e = .returned (.bool true) ∧ Below w.heap.size w w' := by
  have HE := Lib.hid hE
  have HI := Lib.hid hI
  clear hE hI
  go_enter Tryd.func5, Tryd.ntmps5
  go_wp2_with fail
  refine (awake4_any w HE.out).mono ?_
  rintro e w1 ⟨rfl, b1⟩
  go_wp2_with fail
  refine (Few_any A n c w1 (Nat.le_trans HI.out.1 HI.out.2.1)).mono ?_
  rintro e w1' ⟨rfl, rfl⟩
  have hE1 := Lib.hid (HE.out.below b1 HE.out.size)
  by_cases hn : n ≤ 400
  · have hd : decide (n ≤ 400) = true := by simp [hn]
    rw [hd]
    clear hd
    go_wp2_with fail
    refine (New_any A n c w1 (HI.out.below b1)).mono ?_
    rintro e w2 ⟨rfl, hd2, b2⟩
    generalize hg : w1.heap.size = g at *
    have HG := Lib.hid hg
    clear hg
    have hgw : w.heap.size ≤ g := by rw [← HG.out]; exact b1.size
    have b2' : Below w.heap.size w w2 := b1.trans (b2.mono hgw)
    go_wp2_with fail
    refine (Pick_lit g w2 zerL hd2 (by decide) (by decide)).mono ?_
    rintro e w3 ⟨m, hm, rfl, hd3, g3⟩
    have b3 : Below w.heap.size w w3 := b2'.trans (below_of_grown g3 hgw b2'.size)
    have HM := Lib.hid hm
    have hms := zer_size m hm
    clear hm
    obtain ⟨K, hK, hK2⟩ : ∃ K : Nat, z.tmod 20 = (K : Int) ∧ K < 20 := by
      refine ⟨(z.tmod 20).toNat, ?_, ?_⟩
      · have := Int.tmod_nonneg 20 hz0; omega
      · have := Int.tmod_lt_of_pos z (b := 20) (by omega); omega
    go_wp2
    go_loop [7, 8] (fun s k => ∃ (x : ByteArray) (j : Nat), j ≤ K ∧ s = .string x ∧ k = .int .i64 (K - j : Nat) ∧ x.data.toList = List.replicate j 48 ++ m.data.toList ∧ x.size ≤ j + 2) (fun _ k => (intOf k).toNat)
    case atStart => exact ⟨m, 0, by omega, rfl, by simp, by simp, by omega⟩
    case round =>
      obtain ⟨x, j, hj, rfl, rfl, hx, hxs⟩ := hrel
      have HX := Lib.hid hx
      clear hx
      by_cases hlt : j < K
      · have e1 : ((K - j : Nat) : Int) - 1 = ((K - (j + 1) : Nat) : Int) := by omega
        go_wp2
        refine ⟨⟨⟨#[48]⟩ ++ x, j + 1, by omega, rfl, by go_num, ?_, ?_⟩, by simp [intOf]; omega⟩
        · rw [data_add, HX.out, List.replicate_succ]; rfl
        · rw [size_add]; show 1 + x.size ≤ _; omega
      · obtain rfl : j = K := by omega
        go_wp2_with fail
        refine (Token_any g w3 hd3).mono ?_
        rintro e w4 ⟨t, rfl, ht, hd4, g4⟩
        have b4 : Below w.heap.size w w4 := b3.trans (below_of_grown g4 hgw b3.size)
        obtain ⟨v1, v2, v3, v4⟩ := zeros_val ht HM.out HX.out hK2
        have hN := adrNormalise_any w4.heap.size _ rNone (t ++ ⟨#[32]⟩ ++ x) w4 (HE.out.below b4 HE.out.size) (none_rules _ _) (Nat.le_refl _) (by unfold maxLen; omega)
        rw [v1] at hN
        unfold normRet at hN
        have HN := Lib.hid hN
        have hts := low_size ht
        have V2 := Lib.hid v2
        clear hN v1 v2 ht
        go_wp2_with fail
        refine HN.out.mono ?_
        rintro e w5 ⟨rfl, b5⟩
        have b5' := b4.trans (b5.mono b4.size)
        have hNu := Number_any (t ++ ⟨#[32]⟩ ++ m) w5 (HE.out.below b5' HE.out.size) (by omega)
        rw [V2.out] at hNu
        have HNu := Lib.hid hNu
        clear hNu
        generalize (t ++ ⟨#[32]⟩ ++ m : ByteArray) = y at *
        go_wp2_with fail
        refine HNu.out.mono ?_
        rintro e w6 ⟨rfl, b6⟩
        have b6' := b5'.trans (b6.mono b5'.size)
        go_wp2
        go_ret
        exact ⟨ret_bool (by simp), b6'⟩
  · have hd : decide (n ≤ 400) = false := by simp; omega
    rw [hd]
    clear hd
    go_wp2_with fail
    refine (awake4_any w1 hE1.out).mono ?_
    rintro e w2 ⟨rfl, b2⟩
    go_wp2
    go_ret
    exact ⟨rfl, b1.trans (b2.mono b1.size)⟩
end Go.Proofs.YthplnfblpdojkaaDoor
