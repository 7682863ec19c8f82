/- The walk of PhoneticKeys. -/
import Derived.Test.YtblkebjfnboclaaDoorPhonLaw1
namespace Go.Proofs.YtblkebjfnboclaaDoor
open Go.RowKit
set_option linter.unusedVariables false
set_option maxRecDepth 100000

set_option maxHeartbeats 2000000 in
theorem PhoneticKeys_walk (A : Option Addr) (n c : Nat) (w : World) (hE : Env w) (hI : IntsArg w A n c) :
    Calls Tryd.prog 7 #[.slice A n c] w fun e w' => e = .returned (.bool true) ∧ Below w.heap.size w w' := by
  have HE := Lib.hid hE
  have HI := Lib.hid hI
  clear hE hI
  go_enter Tryd.func7, Tryd.ntmps7
  go_wp2_with fail
  refine (awake6_any w HE.out).mono ?_
  rintro e w1 ⟨rfl, b1⟩
  go_wp2_with fail
  refine (Few_any A n c w1 (Nat.le_trans HI.out.1 HI.out.2.1)).mono ?_
  rintro e w1' ⟨rfl, rfl⟩
  by_cases hn : n ≤ 400
  · have hd : decide (n ≤ 400) = true := by simp [hn]
    rw [hd]
    clear hd
    go_wp2_with fail
    refine (New_any A n c w1 (HI.out.below b1)).mono ?_
    rintro e w2 ⟨rfl, hd2, b2⟩
    generalize hg : w1.heap.size = g at *
    have HG := Lib.hid hg
    clear hg
    have hgw : w.heap.size ≤ g := by rw [← HG.out]; exact b1.size
    have b2' : Below w.heap.size w w2 := b1.trans (b2.mono hgw)
    go_wp2_with fail
    refine (Token_any g w2 hd2).mono ?_
    rintro e w3 ⟨ta, rfl, hta, hd3, g3⟩
    have b3 : Below w.heap.size w w3 := b2'.trans (ph_below g3 hgw hd2.lt)
    go_wp2_with fail
    refine (Token_any g w3 hd3).mono ?_
    rintro e w4 ⟨tb, rfl, htb, hd4, g4⟩
    have b4 : Below w.heap.size w w4 := b3.trans (ph_below g4 hgw hd3.lt)
    go_wp2_with fail
    refine (Token_any g w4 hd4).mono ?_
    rintro e w5 ⟨tc, rfl, htc, hd5, g5⟩
    have b5 : Below w.heap.size w w5 := b4.trans (ph_below g5 hgw hd4.lt)
    obtain ⟨ka, -, za⟩ := low_tok hta
    obtain ⟨kb, -, zb⟩ := low_tok htb
    obtain ⟨kc, -, zc⟩ := low_tok htc
    clear hta htb htc hd2 hd3 hd4 hd5 g3 g4 g5
    have hcat : (ta ++ ⟨#[32]⟩ ++ tb).size ≤ 1048576 := by rw [size_add, size_add]; show ta.size + 1 + tb.size ≤ _; omega
    have hcat2 : (⟨#[32, 32]⟩ ++ ta : ByteArray).size ≤ 1048576 := by rw [size_add]; show 2 + ta.size ≤ _; omega
    have H1 := Lib.hid (fun W hW => Key_is (ta ++ ⟨#[32]⟩ ++ tb) _ (ky_first tb ka) hcat W hW)
    have H2 := Lib.hid (fun W hW => Key_is (⟨#[32, 32]⟩ ++ ta : ByteArray) _ (ky_behind (a := ta) ka) hcat2 W hW)
    have H3 := Lib.hid (fun W => Soundex_any ta W)
    have H4 := Lib.hid (fun W hW => Key_is _ _ ky_space (by decide) W hW)
    have H5 := Lib.hid (fun W hW => pSame_is _ _ _ sm_none (by decide) (by decide) W hW)
    have H6 := Lib.hid (fun W hW => pSame_any ta tb W hW (by omega) (by omega))
    have H7 := Lib.hid (fun W hW => pSame_is tb ta _ (sm_turn tb ta) (by omega) (by omega) W hW)
    have H8 := Lib.hid (fun W hW => pSame_is ta (ta ++ ⟨#[32]⟩ ++ tb) _ (sm_first tb ka) (by omega) hcat W hW)
    have H9 := Lib.hid (fun W hW => pSame_any tb tc W hW (by omega) (by omega))
    have H10 := Lib.hid (fun W hW => pSame_any ta tc W hW (by omega) (by omega))
    have HT := Lib.hid (show smB ta tb = true → smB tb tc = true → smB ta tc = true from sm_trans)
    clear ka kb kc hcat hcat2
    generalize sxB ta = SA at *
    generalize smB ta tb = MAB at *
    generalize smB tb tc = MBC at *
    generalize smB ta tc = MAC at *
    have hE5 := Lib.hid (HE.out.below b5 HE.out.size)
    go_wp2_with fail
    refine (H1.out _ hE5.out).mono ?_
    rintro e w6 ⟨rfl, c6⟩
    have b6 : Below w.heap.size w w6 := b5.trans (c6.mono b5.size)
    have hE6 := Lib.hid (HE.out.below b6 HE.out.size)
    clear c6
    go_wp2_with fail
    refine (H3.out _).mono ?_
    rintro e w7 ⟨rfl, c7⟩
    have b7 : Below w.heap.size w w7 := b6.trans (c7.mono b6.size)
    have hE7 := Lib.hid (HE.out.below b7 HE.out.size)
    clear c7
    go_wp2_with fail
    refine (H2.out _ hE7.out).mono ?_
    rintro e w8 ⟨rfl, c8⟩
    have b8 : Below w.heap.size w w8 := b7.trans (c8.mono b7.size)
    have hE8 := Lib.hid (HE.out.below b8 HE.out.size)
    clear c8
    go_wp2_with fail
    refine (H3.out _).mono ?_
    rintro e w9 ⟨rfl, c9⟩
    have b9 : Below w.heap.size w w9 := b8.trans (c9.mono b8.size)
    have hE9 := Lib.hid (HE.out.below b9 HE.out.size)
    clear c9
    go_wp2_with fail
    refine (H4.out _ hE9.out).mono ?_
    rintro e w10 ⟨rfl, c10⟩
    have b10 : Below w.heap.size w w10 := b9.trans (c10.mono b9.size)
    have hE10 := Lib.hid (HE.out.below b10 HE.out.size)
    clear c10
    go_wp2_with fail
    refine (H5.out _ hE10.out).mono ?_
    rintro e w11 ⟨rfl, c11⟩
    have b11 : Below w.heap.size w w11 := b10.trans (c11.mono b10.size)
    have hE11 := Lib.hid (HE.out.below b11 HE.out.size)
    clear c11
    go_wp2_with fail
    refine (H6.out _ hE11.out).mono ?_
    rintro e w12 ⟨rfl, c12⟩
    have b12 : Below w.heap.size w w12 := b11.trans (c12.mono b11.size)
    have hE12 := Lib.hid (HE.out.below b12 HE.out.size)
    clear c12
    go_wp2_with fail
    refine (H7.out _ hE12.out).mono ?_
    rintro e w13 ⟨rfl, c13⟩
    have b13 : Below w.heap.size w w13 := b12.trans (c13.mono b12.size)
    have hE13 := Lib.hid (HE.out.below b13 HE.out.size)
    clear c13
    go_wp2_with fail
    refine (H8.out _ hE13.out).mono ?_
    rintro e w14 ⟨rfl, c14⟩
    have b14 : Below w.heap.size w w14 := b13.trans (c14.mono b13.size)
    have hE14 := Lib.hid (HE.out.below b14 HE.out.size)
    clear c14
    go_wp2_with fail
    refine (H6.out _ hE14.out).mono ?_
    rintro e w15 ⟨rfl, c15⟩
    have b15 : Below w.heap.size w w15 := b14.trans (c15.mono b14.size)
    have hE15 := Lib.hid (HE.out.below b15 HE.out.size)
    cases MAB
    · go_wp2
      go_ret
      exact ⟨rfl, b15⟩
    · go_wp2_with fail
      refine (H9.out _ hE15.out).mono ?_
      rintro e w16 ⟨rfl, c16⟩
      have b16 : Below w.heap.size w w16 := b15.trans (c16.mono b15.size)
      have hE16 := Lib.hid (HE.out.below b16 HE.out.size)
      cases MBC
      · go_wp2
        go_ret
        exact ⟨rfl, b16⟩
      · have hm : MAC = true := by
          have h := HT.out
          simpa using h
        subst hm
        go_wp2_with fail
        refine (H10.out _ hE16.out).mono ?_
        rintro e w17 ⟨rfl, c17⟩
        have b17 : Below w.heap.size w w17 := b16.trans (c17.mono b16.size)
        go_wp2
        go_ret
        exact ⟨rfl, b17⟩
  · have hd : decide (n ≤ 400) = false := by simp [hn]
    rw [hd]
    clear hd
    go_wp2_with fail
    refine (awake6_any w1 (HE.out.below b1 HE.out.size)).mono ?_
    rintro e w2 ⟨rfl, b2⟩
    go_wp2
    go_ret
    exact ⟨rfl, b1.trans (b2.mono b1.size)⟩
end Go.Proofs.YtblkebjfnboclaaDoor
