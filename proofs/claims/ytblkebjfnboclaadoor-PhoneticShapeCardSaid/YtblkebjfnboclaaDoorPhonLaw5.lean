/- The walk of PhoneticShape. -/
import Derived.Test.YtblkebjfnboclaaDoorPhonLaw3
namespace Go.Proofs.YtblkebjfnboclaaDoor
open Go.RowKit
set_option linter.unusedVariables false
set_option maxRecDepth 100000

theorem rLetters_is (s : ByteArray) (h : s.data.toList.all TM.lower = true) (hs : s.size ≤ 1048576) (w : World) :
    Calls Tryd.prog 22 #[.string s] w fun e w' => e = .returned (.string s) ∧ w = w' := by
  have e : (⟨(s.data.toList.filter TM.lower).toArray⟩ : ByteArray) = s := by
    rw [List.filter_eq_self.2 (List.all_eq_true.1 h)]
  have := rLetters_any s w hs
  rw [e] at this
  exact this
theorem front_one {s : ByteArray} {x : UInt8} (h : s.data.toList.take 1 = [x]) : s.extract 0 1 = ⟨#[x]⟩ := by
  have e := Lib.extract_data s 0 1
  rw [List.drop_zero, h] at e
  exact bs_eq e

theorem sk_some {a : ByteArray} (h : ptokB a = true) : ∃ K, skB a = K ∧ 1 ≤ K.size ∧ K.size ≤ 6 ∧ K.data.toList.take 1 = a.data.toList.take 1 ∧ K.data.toList.all TM.lower = true ∧
    ∀ k, ∀ hk : k + 1 < K.size, K[k + 1].toNat ≠ K[k].toNat := ⟨_, rfl, sk_shape h⟩

set_option maxHeartbeats 4000000 in
theorem PhoneticShape_walk (A : Option Addr) (n c : Nat) (w : World) (hE : Env w) (hI : IntsArg w A n c) :
    Calls Tryd.prog 6 #[.slice A n c] w fun e w' => e = .returned (.bool true) ∧ Below w.heap.size w w' := by
  have HE := Lib.hid hE
  have HI := Lib.hid hI
  clear hE hI
  go_enter Tryd.func6, Tryd.ntmps6
  go_wp2_with fail
  refine (awake6_any w HE.out).mono ?_
  rintro e w1 ⟨rfl, b1⟩
  go_wp2_with fail
  refine (Few_any A n c w1 (Nat.le_trans HI.out.1 HI.out.2.1)).mono ?_
  rintro e w1' ⟨rfl, rfl⟩
  by_cases hn : n ≤ 400
  · have hd : decide (n ≤ 400) = true := by simp [hn]
    rw [hd]
    clear hd
    go_wp2_with fail
    refine (New_any A n c w1 (HI.out.below b1)).mono ?_
    rintro e w2 ⟨rfl, hd2, b2⟩
    generalize hg : w1.heap.size = g at *
    have HG := Lib.hid hg
    clear hg
    have hgw : w.heap.size ≤ g := by rw [← HG.out]; exact b1.size
    have b2' : Below w.heap.size w w2 := b1.trans (b2.mono hgw)
    go_wp2_with fail
    refine (Token_any g w2 hd2).mono ?_
    rintro e w3 ⟨ta, rfl, hta, hd3, g3⟩
    have b3 : Below w.heap.size w w3 := b2'.trans (ph_below g3 hgw hd2.lt)
    obtain ⟨ka, za1, za⟩ := low_tok hta
    clear hta
    go_wp2_with fail
    refine (Token_any g w3 hd3).mono ?_
    rintro e w4 ⟨tb, rfl, htb, hd4, g4⟩
    have b4 : Below w.heap.size w w4 := b3.trans (ph_below g4 hgw hd3.lt)
    obtain ⟨kb, zb1, zb⟩ := low_tok htb
    clear htb
    go_wp2_with fail
    refine (Pick_lit g w4 [⟨#[]⟩, tb] hd4 (by simp) (by simp)).mono ?_
    rintro e w5 ⟨sp, hsp, rfl, hd5, g5⟩
    have b5 : Below w.heap.size w w5 := b4.trans (ph_below g5 hgw hd4.lt)
    have hsp2 : sp.data.toList.all TM.lower = true ∧ sp.size ≤ 8 := by
      simp only [List.mem_cons, List.not_mem_nil, or_false] at hsp
      rcases hsp with rfl | rfl
      · decide
      · exact ⟨tok_all kb, zb⟩
    obtain ⟨hsl, hsz⟩ := hsp2
    have ks : ptokB (ta ++ sp) = true := tok_cat ka hsl (by omega)
    have q1 : ¬ (9223372036854775807 < ta.size + sp.size) := by omega
    obtain ⟨S, hS⟩ : ∃ S, S = ta ++ sp := ⟨_, rfl⟩
    rw [← hS] at ks
    have hz16 : S.size ≤ 16 := by rw [hS, size_add]; omega
    have HSS := Lib.hid hS
    clear hS
    have hS1 := (ptok_pos ks).1
    obtain ⟨x, y, z, u, hC, hx, hy1, hz1, hu1, hyz, hzu⟩ := sx_four ks
    obtain ⟨K, hK, hk1, hk6, hkx, hkl, hka⟩ := sk_some ks
    have H1 := Lib.hid (fun W => Soundex_any S W)
    have H2 := Lib.hid (fun W => Skeleton_is S K hK W)
    clear hK
    generalize sxB S = C at *
    have H3 := Lib.hid (fun W => rLetters_is K hkl (by omega) W)
    have f1 : S.extract 0 1 = ⟨#[x]⟩ := front_one hx
    have f2 : K.extract 0 1 = ⟨#[x]⟩ := front_one (hkx.trans hx)
    have f3 : C.extract 0 1 = ⟨#[x]⟩ := front_one (by rw [hC]; rfl)
    have c4 : C.size = 4 := by rw [hC]; rfl
    have i1 : C[1] = y := by subst hC; rfl
    have i2 : C[2] = z := by subst hC; rfl
    have i3 : C[3] = u := by subst hC; rfl
    have HKA := Lib.hid hka
    have HZ := Lib.hid (show y.toNat = 48 → z.toNat = 48 from hyz)
    have HU := Lib.hid (show z.toNat = 48 → u.toNat = 48 from hzu)
    have m1 : (1 : Int) ≤ (S.size : Int) := by omega
    have m2 : (1 : Int) ≤ (K.size : Int) := by omega
    clear hC hx hkx hkl hka hyz hzu ks ka kb hd2 hd3 hd4 hd5 g3 g4 g5 hsp hsl
    have hcat : ta ++ sp = S := HSS.out.symm
    go_wp2_with fail
    refine (H1.out _).mono ?_
    rintro e w6 ⟨rfl, c6⟩
    have b6 : Below w.heap.size w w6 := b5.trans (c6.mono b5.size)
    go_wp2_with fail
    refine (H2.out _).mono ?_
    rintro e w7 ⟨rfl, c7⟩
    have b7 : Below w.heap.size w w7 := b6.trans (c7.mono b6.size)
    clear c6 c7 b6
    go_wp2_with fail
    have m3 : ¬ ((6 : Int) < (K.size : Int)) := by omega
    have m4 : ¬ ((K.size : Int) < 1) := by omega
    go_quiet ((go_at_call 22; exact quiet_same (H3.out _)))
    have b8 := below_drewN b7 nq
    generalize w7.drewN nq = w8 at *
    clear f1 f2 f3 m1 m2 m3 m4 hcat q1
    go_wp2
    go_loopw [7] (fun i wr => ∃ k : Nat, 1 ≤ k ∧ k ≤ 4 ∧ i = .int .i64 k ∧ Below w.heap.size w wr) (fun i _ => 4 - (intOf i).toNat)
    case atStart => exact ⟨1, by omega, by omega, rfl, b8⟩
    case round =>
      obtain ⟨k, hk1', hk4, rfl, hbw⟩ := hrel
      by_cases hlt : k < 4
      · have h123 : k = 1 ∨ k = 2 ∨ k = 3 := by omega
        rcases h123 with rfl | rfl | rfl
        · go_wp2
          exact ⟨⟨2, by omega, by omega, rfl, hbw⟩, by simp [intOf]⟩
        · by_cases hy : y.toNat = 48
          · have hz := HZ.out hy
            have t1 : ((y.toNat : Int) == 48) = true := by simp; omega
            have t2 : ((z.toNat : Int) != 48) = false := by simp; omega
            clear hy hz
            go_wp2
            exact ⟨⟨3, by omega, by omega, rfl, hbw⟩, by simp [intOf]⟩
          · have t1 : ((y.toNat : Int) == 48) = false := by simp; omega
            clear hy
            go_wp2
            exact ⟨⟨3, by omega, by omega, rfl, hbw⟩, by simp [intOf]⟩
        · by_cases hy : z.toNat = 48
          · have hz := HU.out hy
            have t1 : ((z.toNat : Int) == 48) = true := by simp; omega
            have t2 : ((u.toNat : Int) != 48) = false := by simp; omega
            clear hy hz
            go_wp2
            exact ⟨⟨4, by omega, by omega, rfl, hbw⟩, by simp [intOf]⟩
          · have t1 : ((z.toNat : Int) == 48) = false := by simp; omega
            clear hy
            go_wp2
            exact ⟨⟨4, by omega, by omega, rfl, hbw⟩, by simp [intOf]⟩
      · clear hk4 hk1'
        go_wp2
        go_loopw [8] (fun i wz => ∃ j : Nat, j + 1 ≤ K.size ∧ i = .int .i64 ((j + 1 : Nat) : Int) ∧ Below w.heap.size w wz) (fun i _ => K.size - (intOf i).toNat)
        case atStart => exact ⟨0, by omega, rfl, hbw⟩
        case round =>
          obtain ⟨j, hj, rfl, hbz⟩ := hrel
          by_cases hjl : j + 1 < K.size
          · have hka := HKA.out j hjl
            have t1 : ((K[j + 1].toNat : Int) == (K[j].toNat : Int)) = false := by simp; omega
            have hwr : IntKind.i64.wrap (j : Int) = (j : Int) := wrap_num _ (by omega) (by omega)
            have m1 : (j : Int) + 1 < (K.size : Int) := by omega
            have m2 : (j : Int) < (K.size : Int) := by omega
            have m3 : (0 : Int) ≤ (j : Int) := by omega
            have m4 : (0 : Int) ≤ (j : Int) + 1 := by omega
            clear hka
            go_wp2_with fail
            go_quiet (fail)
            go_wp2
            exact ⟨⟨j + 1, by omega, by go_num, below_drewN hbz _⟩, by simp [intOf]; omega⟩
          · go_wp2
            go_ret
            exact ⟨rfl, hbz⟩
  · have hd : decide (n ≤ 400) = false := by simp [hn]
    rw [hd]
    clear hd
    go_wp2_with fail
    refine (awake6_any w1 (HE.out.below b1 HE.out.size)).mono ?_
    rintro e w2 ⟨rfl, b2⟩
    go_wp2
    go_ret
    exact ⟨rfl, b1.trans (b2.mono b1.size)⟩
end Go.Proofs.YtblkebjfnboclaaDoor
