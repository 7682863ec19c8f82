/- The walk of PhoneticSilent. -/
import Derived.Test.YtblkebjfnboclaaDoorPhonLaw3
namespace Go.Proofs.YtblkebjfnboclaaDoor
open Go.RowKit
set_option linter.unusedVariables false
set_option maxRecDepth 100000

set_option maxHeartbeats 20000000 in
theorem PhoneticSilent_walk (A : Option Addr) (n c : Nat) (u : UInt8) (w : World) (hE : Env w) (hI : IntsArg w A n c) :
    Calls Tryd.prog 5 #[.slice A n c, .int .u8 u.toNat] w fun e w' => e = .returned (.bool true) ∧ Below w.heap.size w w' := by
  have HE := Lib.hid hE
  have HI := Lib.hid hI
  have hu := u.toNat_lt
  clear hE hI
  go_enter Tryd.func5, Tryd.ntmps5
  go_wp2_with fail
  refine (awake6_any w HE.out).mono ?_
  rintro e w1 ⟨rfl, b1⟩
  go_wp2_with fail
  refine (Few_any A n c w1 (Nat.le_trans HI.out.1 HI.out.2.1)).mono ?_
  rintro e w1' ⟨rfl, rfl⟩
  by_cases hn : n ≤ 400
  · have hd : decide (n ≤ 400) = true := by simp [hn]
    rw [hd]
    clear hd
    go_wp2_with fail
    refine (New_any A n c w1 (HI.out.below b1)).mono ?_
    rintro e w2 ⟨rfl, hd2, b2⟩
    generalize hg : w1.heap.size = g at *
    have HG := Lib.hid hg
    clear hg
    have hgw : w.heap.size ≤ g := by rw [← HG.out]; exact b1.size
    have b2' : Below w.heap.size w w2 := b1.trans (b2.mono hgw)
    go_wp2_with fail
    refine (Token_any g w2 hd2).mono ?_
    rintro e w3 ⟨s, rfl, hta, hd3, g3⟩
    have b3 : Below w.heap.size w w3 := b2'.trans (ph_below g3 hgw hd2.lt)
    obtain ⟨ka, za1, za⟩ := low_tok hta
    obtain ⟨k, hk⟩ : ∃ k : Nat, k = 1 + u.toNat % s.size := ⟨_, rfl⟩
    have hks : k ≤ s.size := by
      have := Nat.mod_lt u.toNat (show 0 < s.size by omega)
      omega
    have hk1 : 1 ≤ k := by omega
    have hmod : (u.toNat : Int) % (s.size : Int) = ((k - 1 : Nat) : Int) := by
      have : k - 1 = u.toNat % s.size := by omega
      rw [this]; rfl
    have hmod2 : 1 + (u.toNat : Int) % (s.size : Int) = (k : Int) := by rw [hmod]; omega
    have hmw : IntKind.i64.wrap (k : Int) = (k : Int) := wrap_num _ (by omega) (by omega)
    have hz0 : (s.size : Int) ≠ 0 := by omega
    clear hk hmod
    have hbt : ∀ x : Int, 0 ≤ (u.toNat : Int) % (s.size : Int) := fun _ => Int.emod_nonneg _ hz0
    have d1 := fun m hm => put_code (m := m) ka za hm k hk1 hks
    have d2 := fun m hm => put_skel (m := m) ka za hm k hk1 hks
    unfold putB at d1 d2
    have e1 : (s.extract 0 k).size = k := by simp; omega
    have e3 : (s.extract k s.size).size = s.size - k := by simp
    obtain ⟨P, hP⟩ : ∃ P, s.extract 0 k = P := ⟨_, rfl⟩
    obtain ⟨R, hR⟩ : ∃ R, s.extract k s.size = R := ⟨_, rfl⟩
    rw [hP] at e1
    rw [hR] at e3
    simp only [hP, hR] at d1 d2
    have H1 := Lib.hid (fun W => Soundex_any s W)
    have H2 := Lib.hid (fun m hm W => Soundex_is (P ++ m ++ R) _ (d1 m hm) W)
    have H3 := Lib.hid (fun W => Skeleton_any s W)
    have H4 := Lib.hid (fun m hm W => Skeleton_is (P ++ m ++ R) _ (d2 m hm) W)
    clear d1 d2 hta
    generalize sxB s = SA at *
    generalize skB s = KA at *
    clear ka hbt
    have HQ1 := Lib.hid (show ∀ m ∈ silL, ¬ (9223372036854775807 < P.size + m.size) ∧ ¬ (9223372036854775807 < (P ++ m).size + R.size) ∧ ¬ (9223372036854775807 < P.size + m.size + R.size) from fun m hm => by
      have := (sil_is m hm).2.1
      rw [size_add]
      omega)
    have HQ3 := Lib.hid (show ∀ m ∈ vowL, ¬ (9223372036854775807 < P.size + m.size) ∧ ¬ (9223372036854775807 < (P ++ m).size + R.size) ∧ ¬ (9223372036854775807 < P.size + m.size + R.size) from fun m hm => by
      have := (vow_is m hm).2.1
      rw [size_add]
      omega)
    have j1 : (k : Int) ≤ (s.size : Int) := by omega
    have j3 : (0 : Int) ≤ (k : Int) := by omega
    have l1 : silL ≠ [] := by decide
    have l2 : silL.length ≤ 1000 := by decide
    have l3 : vowL ≠ [] := by decide
    have l4 : vowL.length ≤ 1000 := by decide
    have PS0 := Lib.hid (show PS g w w3 from ⟨hd3, b3⟩)
    clear hd2 hd3 b3 g3 b2 b2' e1 e3 hz0
    go_wp2_with fail
    clear hmod2 hmw
    have hst := PS0.out.drew
    go_region_held3 (fun _ => True)
      (first | go_keep | trivial)
      (first
        | (go_at_call 15
           first
             | (refine (H2.out _ hm1 _).mono ?_
                rintro e wb ⟨rfl, cb⟩
                have hst := hst.below cb)
             | (refine (H1.out _).mono ?_
                rintro e wa ⟨rfl, ca⟩
                first
                  | have hst := hst.below ca
                  | (have hst := (hst.alloc _).below ca
                     have hB1 := ca)))
        | (go_at_call 17
           first
             | (refine (H4.out _ hm2 _).mono ?_
                rintro e wd ⟨rfl, cd⟩
                have hst := hst.below cd)
             | (refine (H3.out _).mono ?_
                rintro e wc ⟨rfl, cc⟩
                first
                  | have hst := hst.below cc
                  | (have hst := (hst.alloc _).below cc
                     have hB2 := cc)))
        | (go_at_call 21
           first
             | (have hk1 := hm1
                first
                  | (refine (Pick_kept g _ _ vowL hB2 hst.deck l3 l4).mono ?_
                     rintro e w6 ⟨m2, hm2, rfl, hdk2, hgr2⟩
                     have hst := hst.grown hdk2 hgr2 hgw
                     obtain ⟨q4, q5, q6⟩ := HQ3.out m2 hm2)
                  | (refine (Pick_lit g _ vowL hst.deck l3 l4).mono ?_
                     rintro e w6 ⟨m2, hm2, rfl, hdk2, hgr2⟩
                     have hst := hst.grown hdk2 hgr2 hgw
                     obtain ⟨q4, q5, q6⟩ := HQ3.out m2 hm2))
             | (first
                  | (refine (Pick_kept g w3.drew _ silL hB1 hst.deck l1 l2).mono ?_
                     rintro e w5 ⟨m1, hm1, rfl, hdk1, hgr1⟩
                     have hst := hst.grown hdk1 hgr1 hgw
                     obtain ⟨q1, q2, q3⟩ := HQ1.out m1 hm1)
                  | (refine (Pick_lit g _ silL hst.deck l1 l2).mono ?_
                     rintro e w5 ⟨m1, hm1, rfl, hdk1, hgr1⟩
                     have hst := hst.grown hdk1 hgr1 hgw
                     obtain ⟨q1, q2, q3⟩ := HQ1.out m1 hm1))))
    all_goals
      go_wp2
      go_ret
      exact ⟨rfl, hst.bel⟩
  · have hd : decide (n ≤ 400) = false := by simp [hn]
    rw [hd]
    clear hd
    go_wp2_with fail
    refine (awake6_any w1 (HE.out.below b1 HE.out.size)).mono ?_
    rintro e w2 ⟨rfl, b2⟩
    go_wp2
    go_ret
    exact ⟨rfl, b1.trans (b2.mono b1.size)⟩
end Go.Proofs.YtblkebjfnboclaaDoor
