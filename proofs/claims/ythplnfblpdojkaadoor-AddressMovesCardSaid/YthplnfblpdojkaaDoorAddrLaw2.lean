/- AddressMoves. -/
import Derived.Test.YthplnfblpdojkaaDoorAddrLaw1
namespace Go.Proofs.YthplnfblpdojkaaDoor
open Go.RowKit
set_option linter.unusedVariables false
set_option maxRecDepth 100000

set_option maxRecDepth 100000 in
set_option maxHeartbeats 4000000 in
theorem AddressMoves_walk (A : Option Addr) (n c : Nat) (w : World) (hE : Env w) (hI : IntsArg w A n c) :
    Calls Tryd.prog 4 #[.slice A n c] w fun e w' => e = .returned (.bool true) ∧ Below w.heap.size w w' := by
  have HE := Lib.hid hE
  have HI := Lib.hid hI
  clear hE hI
  go_enter Tryd.func4, Tryd.ntmps4
  go_wp2_with fail
  refine (awake4_any w HE.out).mono ?_
  rintro e w1 ⟨rfl, b1⟩
  go_wp2_with fail
  refine (Few_any A n c w1 (Nat.le_trans HI.out.1 HI.out.2.1)).mono ?_
  rintro e w1' ⟨rfl, rfl⟩
  have hE1 := Lib.hid (HE.out.below b1 HE.out.size)
  by_cases hn : n ≤ 400
  · have hd : decide (n ≤ 400) = true := by simp [hn]
    rw [hd]
    clear hd
    go_wp2_with fail
    refine (New_any A n c w1 (HI.out.below b1)).mono ?_
    rintro e w2 ⟨rfl, hd2, b2⟩
    generalize hg : w1.heap.size = g at *
    have HG := Lib.hid hg
    clear hg
    have hgw : w.heap.size ≤ g := by rw [← HG.out]; exact b1.size
    go_wp2_with fail
    refine (Rules_any g w2 hd2).mono ?_
    rintro e w3 ⟨v, r, rfl, hrp, hdl, hd3, g3⟩
    have hr := hrp.plain
    obtain ⟨tv, nv, sv, rfl, ⟨⟨ta, tc, htv, -, -, -⟩, -⟩, ⟨⟨na, nc, hnv, -, -, -⟩, -⟩, ⟨⟨ua, uc, hsv, -, -, -⟩, -⟩⟩ := hrp
    have HDl := Lib.hid hdl
    clear hdl
    have b3 : Below w.heap.size w w3 := (b1.trans (b2.mono hgw)).trans (below_of_grown g3 hgw (Nat.le_trans hgw (Nat.le_of_lt hd2.lt)))
    have b4 : Below w.heap.size w (w3.alloc (.cells #[tv, nv, sv] 30)) := b3.alloc b3.size _
    have HR := Lib.hid (hr.keep (below_alloc w3 (.cells #[tv, nv, sv] 30)))
    have HB := Lib.hid (Box.new w3 tv nv sv)
    have hd4 := hd3.alloc (.cells #[tv, nv, sv] 30)
    have hp : w3.heap.size < (w3.alloc (.cells #[tv, nv, sv] 30)).heap.size := by simp
    have hpg : w3.heap.size ≠ g := by have := hd3.lt; omega
    clear hr
    obtain ⟨W0, hW0⟩ : ∃ W, w3.alloc (.cells #[tv, nv, sv] 30) = W := ⟨_, rfl⟩
    subst htv hnv hsv
    rw [hW0] at b4 HR HB hd4 hp
    go_wp2_with fail
    clear hW0
    generalize Value.slice ta r.titles.length tc = tv at *
    generalize Value.slice na r.nicks.length nc = nv at *
    generalize Value.slice ua r.streets.length uc = sv at *
    generalize hpp : w3.heap.size = p at *
    have HPp := Lib.hid hpp
    clear hpp
    have hszp : p ≤ W0.heap.size := Nat.le_of_lt hp
    refine (Token_any g W0 hd4).mono ?_
    rintro e w5 ⟨a, rfl, ha, hd5, g5⟩
    go_wp2_with fail
    refine (Token_any g w5 hd5).mono ?_
    rintro e w6 ⟨b, rfl, hb, hd6, g6⟩
    have g6' := grown_trans g5 g6
    go_wp2_with fail
    refine (Pick_lit g w6 movL hd6 (by decide) (by decide)).mono ?_
    rintro e w7 ⟨nn, hnn, rfl, hd7, g7⟩
    have g7' := grown_trans g6' g7
    have b7 : Below w.heap.size w w7 := b4.trans (below_of_grown g7' hgw b4.size)
    have HR7 := Lib.hid (HR.out.grown hd4 g7' hszp)
    have HB7 := Lib.hid (HB.out.grown g7' hp hpg)
    have hp7 : p < w7.heap.size := Nat.lt_of_lt_of_le hp g7'.size
    have E7 := Lib.hid (HE.out.below b7 HE.out.size)
    obtain ⟨m1, m2, m3, m4⟩ := moves HDl.out ha hb hnn
    obtain ⟨x1, x1z⟩ := m1 [nn, a, b] (.inl rfl)
    obtain ⟨x2, x2z⟩ := m1 [a, nn, b] (.inr (.inl rfl))
    obtain ⟨x3, x3z⟩ := m1 [a, b, nn] (.inr (.inr rfl))
    have ca := low_size (canon_street HDl.out ha)
    have cb := low_size (canon_street HDl.out hb)
    have hn2 := (mov_all nn hnn).2.2.2
    have ha2 := low_size ha
    have hb2 := low_size hb
    rw [joinOf_three, joinOf_three] at x1 x2 x3
    rw [joinOf_three] at x1z x2z x3z m2 m3 m4
    rw [joinOf_two] at m4
    have N1 : ∀ V, Env V → IsRules p V (.agg #[tv, nv, sv]) r → p ≤ V.heap.size → _ := fun V hE hR hp => adrNormalise_any p _ r (nn ++ ⟨#[32]⟩ ++ a ++ ⟨#[32]⟩ ++ b) V hE hR hp (by unfold maxLen; omega)
    have N2 : ∀ V, Env V → IsRules p V (.agg #[tv, nv, sv]) r → p ≤ V.heap.size → _ := fun V hE hR hp => adrNormalise_any p _ r (a ++ ⟨#[32]⟩ ++ nn ++ ⟨#[32]⟩ ++ b) V hE hR hp (by unfold maxLen; omega)
    have N3 : ∀ V, Env V → IsRules p V (.agg #[tv, nv, sv]) r → p ≤ V.heap.size → _ := fun V hE hR hp => adrNormalise_any p _ r (a ++ ⟨#[32]⟩ ++ b ++ ⟨#[32]⟩ ++ nn) V hE hR hp (by unfold maxLen; omega)
    rw [x1] at N1
    rw [x2] at N2
    rw [x3] at N3
    unfold normRet at N1 N2 N3
    obtain ⟨X, hX⟩ : ∃ X : ByteArray, canonB r.streets a ++ ⟨#[32]⟩ ++ canonB r.streets b ++ ⟨#[32]⟩ ++ nn = X := ⟨_, rfl⟩
    have M0 := Lib.hid hX
    rw [hX] at N1 N2 N3 m2 m3 m4
    have H1 := Lib.hid N1
    have H2 := Lib.hid N2
    have H3 := Lib.hid N3
    have M3 := Lib.hid m3
    have M4 := Lib.hid m4
    clear N1 N2 N3 m1 m3 m4 x1 x2 x3 hX hnn ha hb
    obtain ⟨k0, k1, k2⟩ := HB7.out
    go_wp2_with fail
    refine (H1.out w7 E7.out HR7.out (Nat.le_of_lt hp7)).mono ?_
    rintro e w8 ⟨rfl, b8⟩
    have b8' := b7.trans (b8.mono b7.size)
    have HR8 := Lib.hid (HR7.out.keep (b8.mono (Nat.le_of_lt hp7)))
    have HB8 := Lib.hid (HB7.out.below b8 hp7)
    have hp8 : p < w8.heap.size := Nat.lt_of_lt_of_le hp7 b8.size
    clear k0 k1 k2
    obtain ⟨k0, k1, k2⟩ := HB8.out
    go_wp2_with fail
    refine (H2.out w8 (HE.out.below b8' HE.out.size) HR8.out (Nat.le_of_lt hp8)).mono ?_
    rintro e w9 ⟨rfl, b9⟩
    have b9' := b8'.trans (b9.mono b8'.size)
    have HR9 := Lib.hid (HR8.out.keep (b9.mono (Nat.le_of_lt hp8)))
    have HB9 := Lib.hid (HB8.out.below b9 hp8)
    have hp9 : p < w9.heap.size := Nat.lt_of_lt_of_le hp8 b9.size
    clear k0 k1 k2
    obtain ⟨k0, k1, k2⟩ := HB9.out
    go_wp2_with fail
    refine (H3.out w9 (HE.out.below b9' HE.out.size) HR9.out (Nat.le_of_lt hp9)).mono ?_
    rintro e w10 ⟨rfl, b10⟩
    have b10' := b9'.trans (b10.mono b9'.size)
    have HR10 := Lib.hid (HR9.out.keep (b10.mono (Nat.le_of_lt hp9)))
    have HB10 := Lib.hid (HB9.out.below b10 hp9)
    have hp10 : p < w10.heap.size := Nat.lt_of_lt_of_le hp9 b10.size
    clear k0 k1 k2
    obtain ⟨k0, k1, k2⟩ := HB10.out
    have HS : ∀ V, IsRules p V (.agg #[tv, nv, sv]) r → IsPairs p V sv r.streets := fun V h => by
      obtain ⟨_, _, _, he, -, -, hs⟩ := h
      simp only [Value.agg.injEq, Array.mk.injEq, List.cons.injEq, and_true] at he
      obtain ⟨rfl, rfl, rfl⟩ := he
      exact hs
    have R1 := Lib.hid (fun n => rReplace_any p sv r.streets a (w10.drewN n) ((HS w10 HR10.out).keep (below_drewN (Below.refl _ _) n)))
    have R2 := Lib.hid (fun n => rReplace_any p sv r.streets b (w10.drewN n) ((HS w10 HR10.out).keep (below_drewN (Below.refl _ _) n)))
    clear HS H1 H2 H3 HR7 HR8 HR9 HB7 HB8 HB9 x1z x2z x3z ha2 hb2 b8 b9 b10 g7 g7' g6 g6' g5
    generalize canonB r.streets a = ya at *
    generalize canonB r.streets b = yb at *
    go_wp2_with fail
    have l1 : ¬ (9223372036854775807 < ya.size + 1) := by omega
    have l2 : ¬ (9223372036854775807 < ya.size + 1 + yb.size) := by omega
    refine wp_region_quiet_lit (by kernel_rfl) (by kernel_rfl) ?_
    quiet_step (fail)
    quiet_step (fail)
    quiet_step (fail)
    quiet_step ((go_at_call 19; exact quiet_left (R1.out _)))
    quiet_step (fail)
    quiet_step (fail)
    quiet_step (fail)
    quiet_step (fail)
    quiet_step ((go_at_call 19; exact quiet_left (R2.out _)))
    quiet_step (fail)
    quiet_step (fail)
    refine wpQuiet_nil ?_
    rintro _ ⟨nq, rfl⟩
    clear l1 l2 R1 R2 k0 k1 k2
    obtain ⟨Y, hY⟩ : ∃ Y : ByteArray, ya ++ ⟨#[32]⟩ ++ yb = Y := ⟨_, rfl⟩
    have hYs : Y.size ≤ 17 := by rw [← hY]; simp only [size_add, sp_size]; omega
    have M4' := Lib.hid (M4.out.trans hY)
    have hMX := M0.out
    rw [hY] at hMX ⊢
    clear hY M0 M4 ca cb
    have ht : (X.toList == (Y ++ ⟨#[32]⟩ ++ nn).toList) = true := by rw [hMX]; simp
    clear hMX
    have l3 : ¬ (9223372036854775807 < Y.size + 1) := by omega
    have l4 : ¬ (9223372036854775807 < Y.size + 1 + nn.size) := by omega
    have bq := Lib.hid (below_drewN b10' nq)
    generalize w10.drewN nq = wq at *
    have hNu := Number_any X wq (HE.out.below bq.out HE.out.size) (by omega)
    rw [M3.out] at hNu
    have HNu := Lib.hid hNu
    clear hNu
    go_wp2_with fail
    refine HNu.out.mono ?_
    rintro e w11 ⟨rfl, b11⟩
    have b11' := bq.out.trans (b11.mono bq.out.size)
    have hSt := Street_any X w11 (HE.out.below b11' HE.out.size) (by omega)
    rw [M4'.out] at hSt
    have HSt := Lib.hid hSt
    clear hSt
    go_wp2_with fail
    refine HSt.out.mono ?_
    rintro e w12 ⟨rfl, b12⟩
    go_wp2
    go_ret
    exact ⟨ret_bool (by simp), b11'.trans (b12.mono b11'.size)⟩
  · have hd : decide (n ≤ 400) = false := by simp; omega
    rw [hd]
    clear hd
    go_wp2_with fail
    refine (awake4_any w1 hE1.out).mono ?_
    rintro e w2 ⟨rfl, b2⟩
    go_wp2
    go_ret
    exact ⟨rfl, b1.trans (b2.mono b1.size)⟩
end Go.Proofs.YthplnfblpdojkaaDoor
