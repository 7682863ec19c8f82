/- AddressIdempotent. -/
import Derived.Test.YthplnfblpdojkaaDoorAddrLaw1
import Derived.Test.YthplnfblpdojkaaDoorDeckBent
namespace Go.Proofs.YthplnfblpdojkaaDoor
open Go.RowKit
set_option linter.unusedVariables false
set_option maxRecDepth 100000

theorem adr_small (r : RL) (s : ByteArray) {x : ByteArray} {c : Int} (h : adrVal r s = (x, c)) : x.size ≤ 64 := by
  rcases adr_cases r s with ⟨c', -, he⟩ | ⟨he, -, -, -, -, hz⟩
  · rw [h] at he
    obtain ⟨rfl, -⟩ := Prod.mk.inj he
    decide
  · rw [h] at he
    obtain ⟨rfl, -⟩ := Prod.mk.inj he
    exact hz
theorem code_small (s : ByteArray) {x : ByteArray} {c : Int} (h : codeVal s = (x, c)) : x.size ≤ 64 := by
  rcases code_cases s with ⟨c', -, he⟩ | ⟨he, -, hz⟩
  · rw [h] at he
    obtain ⟨rfl, -⟩ := Prod.mk.inj he
    decide
  · rw [h] at he
    obtain ⟨rfl, -⟩ := Prod.mk.inj he
    omega
theorem adr_idem (r : RL) (s : ByteArray) {x : ByteArray} {c : Int} (h : adrVal r s = (x, c)) : (c != 0) = true ∨ (c = 0 ∧ adrVal r x = (x, 0) ∧ adrB r x = true) := by
  rcases adr_cases r s with ⟨c', hc, he⟩ | ⟨he, h1, h2, h3, h4, h5⟩
  · rw [h] at he
    obtain ⟨-, rfl⟩ := Prod.mk.inj he
    exact .inl (by simp [hc])
  · rw [h] at he
    obtain ⟨rfl, rfl⟩ := Prod.mk.inj he
    have := adr_again h2 h3 h4 h5 h1
    exact .inr ⟨rfl, this, by unfold adrB; rw [this]; simp⟩
theorem code_idem (s : ByteArray) {x : ByteArray} {c : Int} (h : codeVal s = (x, c)) : (c != 0) = true ∨ (c = 0 ∧ codeVal x = (x, 0) ∧ codeB x = true) := by
  rcases code_cases s with ⟨c', hc, he⟩ | ⟨he, h1, h2⟩
  · rw [h] at he
    obtain ⟨-, rfl⟩ := Prod.mk.inj he
    exact .inl (by simp [hc])
  · rw [h] at he
    obtain ⟨rfl, rfl⟩ := Prod.mk.inj he
    have := code_again h1 h2
    exact .inr ⟨rfl, this, by unfold codeB; rw [this]; simp⟩

set_option maxRecDepth 100000 in
set_option maxHeartbeats 4000000 in
theorem AddressIdempotent_walk (A : Option Addr) (n c : Nat) (w : World) (hE : Env w) (hI : IntsArg w A n c) :
    Calls Tryd.prog 3 #[.slice A n c] w fun e w' => e = .returned (.bool true) ∧ Below w.heap.size w w' := by
  have HE := Lib.hid hE
  have HI := Lib.hid hI
  clear hE hI
  go_enter Tryd.func3, Tryd.ntmps3
  go_wp2_with fail
  refine (awake4_any w HE.out).mono ?_
  rintro e w1 ⟨rfl, b1⟩
  go_wp2_with fail
  refine (Few_any A n c w1 (Nat.le_trans HI.out.1 HI.out.2.1)).mono ?_
  rintro e w1' ⟨rfl, rfl⟩
  have hE1 := Lib.hid (HE.out.below b1 HE.out.size)
  by_cases hn : n ≤ 400
  · have hd : decide (n ≤ 400) = true := by simp [hn]
    rw [hd]
    clear hd
    go_wp2_with fail
    refine (New_any A n c w1 (HI.out.below b1)).mono ?_
    rintro e w2 ⟨rfl, hd2, b2⟩
    generalize hg : w1.heap.size = g at *
    have HG := Lib.hid hg
    clear hg
    have hgw : w.heap.size ≤ g := by rw [← HG.out]; exact b1.size
    go_wp2_with fail
    refine (Bent_any g w2 hd2).mono ?_
    rintro e w3 ⟨v, r, rfl, hr, hd3, g3⟩
    have b3 : Below w.heap.size w w3 := (b1.trans (b2.mono hgw)).trans (below_of_grown g3 hgw (Nat.le_trans hgw (Nat.le_of_lt hd2.lt)))
    have hr0 := hr
    obtain ⟨tv, nv, sv, rfl, ⟨ta, tc, htv, -, -, -⟩, ⟨na, nc, hnv, -, -, -⟩, ⟨ua, uc, hsv, -, -, -⟩⟩ := hr
    have b4 : Below w.heap.size w (w3.alloc (.cells #[tv, nv, sv] 30)) := b3.alloc b3.size _
    have HR := Lib.hid (hr0.keep (below_alloc w3 (.cells #[tv, nv, sv] 30)))
    have HB := Lib.hid (Box.new w3 tv nv sv)
    have hd4 := hd3.alloc (.cells #[tv, nv, sv] 30)
    have hp : w3.heap.size < (w3.alloc (.cells #[tv, nv, sv] 30)).heap.size := by simp
    have hpg : w3.heap.size ≠ g := by have := hd3.lt; omega
    clear hr0
    obtain ⟨W0, hW0⟩ : ∃ W, w3.alloc (.cells #[tv, nv, sv] 30) = W := ⟨_, rfl⟩
    subst htv hnv hsv
    rw [hW0] at b4 HR HB hd4 hp
    go_wp2_with fail
    clear hW0
    generalize Value.slice ta r.titles.length tc = tv at *
    generalize Value.slice na r.nicks.length nc = nv at *
    generalize Value.slice ua r.streets.length uc = sv at *
    generalize hpp : w3.heap.size = p at *
    have HPp := Lib.hid hpp
    clear hpp
    have hszp : p ≤ W0.heap.size := Nat.le_of_lt hp
    obtain ⟨c0, c1, c2⟩ := HB.out
    go_region_held3 (fun w' => w'.cell? ⟨p, 0, none⟩ = some tv ∧ w'.cell? ⟨p, 1, none⟩ = some nv ∧ w'.cell? ⟨p, 2, none⟩ = some sv)
      (first | go_keep | exact hS6 | exact hS5)
      (first
        | (go_at_call 12
           refine (Text_any g _ (show Deck g W0.drew from hd4)).mono ?_
           rintro e w5 ⟨s0, rfl, hs0, hd5, g5⟩
           have g5' : W0.grownBy w5 (some g) := drew_grown g5
           have hS5 : Box w5 p tv nv sv := HB.out.grown g5' hp hpg
           have b5 : Below w.heap.size w w5 := b4.trans (below_of_grown g5' hgw b4.size))
        | (go_at_call 11
           refine (adrNormalise_any p _ r s0 w5 (HE.out.below b5 HE.out.size) (HR.out.grown hd4 g5' hszp) (Nat.le_trans hszp g5'.size) (by unfold maxLen; omega)).mono ?_
           rintro e w6 ⟨rfl, b6⟩
           have hS6 : Box w6 p tv nv sv := Box.below hS5 b6 (Nat.lt_of_lt_of_le hp g5'.size)
           obtain ⟨⟨x, c⟩, hxc⟩ : ∃ q, adrVal r s0 = q := ⟨_, rfl⟩
           have HXC := Lib.hid hxc
           rw [hxc]
           clear hxc
           unfold normRet))
    have b6' : Below w.heap.size w w6 := b5.trans (b6.mono b5.size)
    have hsz6 : p < w6.heap.size := Nat.lt_of_lt_of_le (Nat.lt_of_lt_of_le hp g5'.size) b6.size
    have HR6 := Lib.hid ((HR.out.grown hd4 g5' hszp).keep (b6.mono (Nat.le_trans hszp g5'.size)))
    have HS6 := Lib.hid hS6
    have hd6 := hd5.below b6 hd5.lt
    clear hS5 hS6 c0 c1 c2
    rename_i hHeld
    clear hHeld
    have hxz := adr_small r s0 HXC.out
    have HID := Lib.hid (adr_idem r s0 HXC.out)
    clear HXC
    go_wp2_with fail
    refine (Text_any g w6 hd6).mono ?_
    rintro e w7 ⟨s1, rfl, hs1, hd7, g7⟩
    have b7' : Below w.heap.size w w7 := b6'.trans (below_of_grown g7 hgw b6'.size)
    have HR7 := Lib.hid (HR6.out.grown hd6 g7 (Nat.le_of_lt hsz6))
    have HS7 := Lib.hid (HS6.out.grown g7 hsz6 hpg)
    have hsz7 : p < w7.heap.size := Nat.lt_of_lt_of_le hsz6 g7.size
    have hCd := Code_any s1 w7 (HE.out.below b7' HE.out.size) (by unfold maxLen; omega)
    obtain ⟨⟨y, d⟩, hyd⟩ : ∃ q, codeVal s1 = q := ⟨_, rfl⟩
    have hyz := code_small s1 hyd
    have HIC := Lib.hid (code_idem s1 hyd)
    rw [hyd] at hCd
    unfold normRet at hCd
    have HCd := Lib.hid hCd
    clear hCd hyd
    go_wp2_with fail
    refine HCd.out.mono ?_
    rintro e w8 ⟨rfl, b8⟩
    have b8' := b7'.trans (b8.mono b7'.size)
    have HR8 := Lib.hid (HR7.out.keep (b8.mono (Nat.le_of_lt hsz7)))
    have HS8 := Lib.hid (HS7.out.below b8 hsz7)
    have hsz8 : p < w8.heap.size := Nat.lt_of_lt_of_le hsz7 b8.size
    have hN2 := adrNormalise_any p _ r x w8 (HE.out.below b8' HE.out.size) HR8.out (Nat.le_of_lt hsz8) (by unfold maxLen; omega)
    obtain ⟨⟨t, gg⟩, htg⟩ : ∃ q, adrVal r x = q := ⟨_, rfl⟩
    rw [htg] at hN2
    unfold normRet at hN2
    have HN2 := Lib.hid hN2
    have HTG := Lib.hid htg
    clear hN2 htg
    obtain ⟨c0, c1, c2⟩ := HS8.out
    go_wp2_with fail
    refine HN2.out.mono ?_
    rintro e w9 ⟨rfl, b9⟩
    have b9' := b8'.trans (b9.mono b8'.size)
    have HR9 := Lib.hid (HR8.out.keep (b9.mono (Nat.le_of_lt hsz8)))
    have HS9 := Lib.hid (HS8.out.below b9 hsz8)
    have hsz9 : p < w9.heap.size := Nat.lt_of_lt_of_le hsz8 b9.size
    have hCd := Code_any y w9 (HE.out.below b9' HE.out.size) (by unfold maxLen; omega)
    obtain ⟨⟨u, hh⟩, huh⟩ : ∃ q, codeVal y = q := ⟨_, rfl⟩
    rw [huh] at hCd
    unfold normRet at hCd
    have HCd2 := Lib.hid hCd
    have HUH := Lib.hid huh
    clear hCd huh c0 c1 c2
    go_wp2_with fail
    refine HCd2.out.mono ?_
    rintro e w10 ⟨rfl, b10⟩
    have b10' := b9'.trans (b10.mono b9'.size)
    have HR10 := Lib.hid (HR9.out.keep (b10.mono (Nat.le_of_lt hsz9)))
    have hsz10 : p < w10.heap.size := Nat.lt_of_lt_of_le hsz9 b10.size
    obtain ⟨c0, c1, c2⟩ := HS9.out.below b10 hsz9
    have HNm := Lib.hid (adrNormal_any p _ r x w10 (HE.out.below b10' HE.out.size) HR10.out (Nat.le_of_lt hsz10) (by unfold maxLen; omega))
    have HNd := Lib.hid (fun V (h : Env V) => Normed_any y V h (by unfold maxLen; omega))
    rcases HID.out with t0 | ⟨rfl, h1, h2⟩
    · rcases HIC.out with t1 | ⟨rfl, h3, h4⟩
      · go_wp2
        go_ret
        exact ⟨rfl, b10'⟩
      · rw [HUH.out] at h3
        obtain ⟨rfl, rfl⟩ := Prod.mk.inj h3
        have hq := HNd.out w10 (HE.out.below b10' HE.out.size)
        rw [h4] at hq
        have HQ := Lib.hid hq
        clear hq h3 h4
        go_wp2_with (go_at_call 15; refine HQ.out.mono ?_; rintro e wz ⟨rfl, bz⟩)
        all_goals (go_ret; exact ⟨rfl, b10'.trans (bz.mono b10'.size)⟩)
    · rw [HTG.out] at h1
      obtain ⟨rfl, rfl⟩ := Prod.mk.inj h1
      have hq := HNm.out
      rw [h2] at hq
      have HQ := Lib.hid hq
      clear hq h1 h2
      rcases HIC.out with t1 | ⟨rfl, h3, h4⟩
      · go_wp2_with (go_at_call 14; refine HQ.out.mono ?_; rintro e wz ⟨rfl, bz⟩)
        all_goals (go_ret; exact ⟨rfl, b10'.trans (bz.mono b10'.size)⟩)
      · rw [HUH.out] at h3
        obtain ⟨rfl, rfl⟩ := Prod.mk.inj h3
        have hq2 := HNd.out
        rw [h4] at hq2
        have HQ2 := Lib.hid hq2
        clear hq2 h3 h4
        go_wp2_with fail
        refine HQ.out.mono ?_
        rintro e wz ⟨rfl, bz⟩
        have bz' := b10'.trans (bz.mono b10'.size)
        clear c0 c1 c2
        go_wp2_with fail
        refine (HQ2.out wz (HE.out.below bz' HE.out.size)).mono ?_
        rintro e wy ⟨rfl, bye⟩
        go_wp2
        go_ret
        exact ⟨rfl, bz'.trans (bye.mono bz'.size)⟩
  · have hd : decide (n ≤ 400) = false := by simp; omega
    rw [hd]
    clear hd
    go_wp2_with fail
    refine (awake4_any w1 hE1.out).mono ?_
    rintro e w2 ⟨rfl, b2⟩
    go_wp2
    go_ret
    exact ⟨rfl, b1.trans (b2.mono b1.size)⟩
end Go.Proofs.YthplnfblpdojkaaDoor
