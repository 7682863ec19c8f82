/- The walks of PhoneticDoubles and PhoneticSilent. -/
import Derived.Test.YtblkebjfnboclaaDoorPhonLaw1
import Derived.BigQuiet
import Derived.Deep.RegionHeld3
namespace Go.Proofs.YtblkebjfnboclaaDoor
open Go.RowKit
set_option linter.unusedVariables false
set_option maxRecDepth 100000

/-- What a walk keeps of a world: its deck, and what lay below. -/
structure PS (g : Nat) (w W : World) : Prop where
  deck : Deck g W
  bel : Below w.heap.size w W
theorem PS.drew {g : Nat} {w W : World} (h : PS g w W) : PS g w W.drew := ⟨h.deck.drewN 1, below_drewN h.bel 1⟩
theorem PS.alloc {g : Nat} {w W : World} (h : PS g w W) (o : Obj) : PS g w (W.alloc o) := ⟨h.deck.alloc o, h.bel.alloc h.bel.size o⟩
theorem PS.below {g : Nat} {w W W' : World} (h : PS g w W) (hb : Below W.heap.size W W') : PS g w W' := ⟨h.deck.below hb h.deck.lt, h.bel.trans (hb.mono h.bel.size)⟩
theorem PS.grown {g : Nat} {w W W' : World} (h : PS g w W) (hd : Deck g W') (hg : W.grownBy W' (some g)) (hgw : w.heap.size ≤ g) : PS g w W' := ⟨hd, h.bel.trans (ph_below hg hgw h.deck.lt)⟩

theorem Pick_kept (g : Nat) (X W : World) (xs : List ByteArray) (hc : Below (X.alloc (.cells (xs.map Value.string).toArray 9)).heap.size (X.alloc (.cells (xs.map Value.string).toArray 9)) W) (h : Deck g W) (hne : xs ≠ []) (hl : xs.length ≤ 1000) :
    Calls Tryd.prog 21 #[.pointer (some ⟨g, 0, none⟩), .slice (some ⟨X.heap.size, 0, none⟩) xs.length xs.length] W fun e w' => ∃ s ∈ xs, e = .returned (.string s) ∧ Deck g w' ∧ W.grownBy w' (some g) := by
  have hs := hc.size
  have hz : (X.alloc (.cells (xs.map Value.string).toArray 9)).heap.size = X.heap.size + 1 := by simp
  rw [hz] at hs hc
  exact Pick_any g (X.heap.size + 1) _ xs W ((texts_lit X xs (by unfold maxLen; omega)).keep hc) h hs hne hl

set_option maxHeartbeats 2000000 in
theorem PhoneticDoubles_walk (A : Option Addr) (n c : Nat) (u : UInt8) (w : World) (hE : Env w) (hI : IntsArg w A n c) :
    Calls Tryd.prog 4 #[.slice A n c, .int .u8 u.toNat] w fun e w' => e = .returned (.bool true) ∧ Below w.heap.size w w' := by
  have HE := Lib.hid hE
  have HI := Lib.hid hI
  have hu := u.toNat_lt
  clear hE hI
  go_enter Tryd.func4, Tryd.ntmps4
  go_wp2_with fail
  refine (awake6_any w HE.out).mono ?_
  rintro e w1 ⟨rfl, b1⟩
  go_wp2_with fail
  refine (Few_any A n c w1 (Nat.le_trans HI.out.1 HI.out.2.1)).mono ?_
  rintro e w1' ⟨rfl, rfl⟩
  by_cases hn : n ≤ 400
  · have hd : decide (n ≤ 400) = true := by simp [hn]
    rw [hd]
    clear hd
    go_wp2_with fail
    refine (New_any A n c w1 (HI.out.below b1)).mono ?_
    rintro e w2 ⟨rfl, hd2, b2⟩
    generalize hg : w1.heap.size = g at *
    have HG := Lib.hid hg
    clear hg
    have hgw : w.heap.size ≤ g := by rw [← HG.out]; exact b1.size
    have b2' : Below w.heap.size w w2 := b1.trans (b2.mono hgw)
    go_wp2_with fail
    refine (Token_any g w2 hd2).mono ?_
    rintro e w3 ⟨s, rfl, hta, hd3, g3⟩
    have b3 : Below w.heap.size w w3 := b2'.trans (ph_below g3 hgw hd2.lt)
    obtain ⟨ka, za1, za⟩ := low_tok hta
    obtain ⟨k, hk⟩ : ∃ k : Nat, k = u.toNat % s.size := ⟨_, rfl⟩
    have hks : k < s.size := by rw [hk]; exact Nat.mod_lt _ (by omega)
    have hmod : (u.toNat : Int) % (s.size : Int) = (k : Int) := by rw [hk]; rfl
    have hz0 : (s.size : Int) ≠ 0 := by omega
    clear hk hta hd2 hd3 g3
    obtain ⟨d1, d2⟩ := dbl_codes ka za k hks
    unfold dblB at d1 d2
    have ej : s.extract 0 k ++ s.extract k (k + 1) = s.extract 0 (k + 1) := by simp
    rw [ej] at d1 d2
    have e1 : (s.extract 0 k).size = k := by simp; omega
    have e2 : (s.extract k (k + 1)).size = 1 := by simp; omega
    have e3 : (s.extract k s.size).size = s.size - k := by simp
    have hfull := sx_full ka
    have H1 := Lib.hid (fun W => Soundex_any s W)
    have H2 := Lib.hid (fun W => Soundex_is (s.extract 0 (k + 1) ++ s.extract k s.size) _ d1 W)
    have H3 := Lib.hid (fun W => Skeleton_any s W)
    have H4 := Lib.hid (fun W => Skeleton_is (s.extract 0 (k + 1) ++ s.extract k s.size) _ d2 W)
    clear d1 d2
    generalize sxB s = SA at *
    generalize skB s = KA at *
    clear ka
    have q1 : ¬ (9223372036854775807 < (s.extract 0 k).size + (s.extract k (k + 1)).size) := by omega
    have e4 : (s.extract 0 (k + 1)).size = k + 1 := by simp; omega
    have q2 : ¬ (9223372036854775807 < (s.extract 0 (k + 1)).size + (s.extract k s.size).size) := by omega
    have j1 : (k : Int) ≤ (s.size : Int) := by omega
    have j2 : (k : Int) + 1 ≤ (s.size : Int) := by omega
    have j3 : (0 : Int) ≤ (k : Int) := by omega
    have j4 : (k : Int) ≤ (k : Int) + 1 := by omega
    go_wp2_with fail
    rw [hmod]
    go_quiet (fail)
    have b4 := below_drewN b3 nq
    generalize w3.drewN nq = w4 at *
    clear q1 q2 j1 j2 j3 j4 e1 e2 e3 e4 hmod ej
    generalize s.extract 0 (k + 1) ++ s.extract k s.size = T at *
    go_wp2_with fail
    refine (H1.out _).mono ?_
    rintro e w5 ⟨rfl, c5⟩
    have b5 : Below w.heap.size w w5 := b4.trans (c5.mono b4.size)
    clear c5
    go_wp2_with fail
    refine (H2.out _).mono ?_
    rintro e w6 ⟨rfl, c6⟩
    have b6 : Below w.heap.size w w6 := b5.trans (c6.mono b5.size)
    clear c6
    go_wp2_with fail
    refine (H3.out _).mono ?_
    rintro e w7 ⟨rfl, c7⟩
    have b7 : Below w.heap.size w w7 := b6.trans (c7.mono b6.size)
    clear c7
    go_wp2_with fail
    refine (H4.out _).mono ?_
    rintro e w8 ⟨rfl, c8⟩
    have b8 : Below w.heap.size w w8 := b7.trans (c8.mono b7.size)
    clear c8
    go_wp2_with fail
    refine (H1.out _).mono ?_
    rintro e w9 ⟨rfl, c9⟩
    have b9 : Below w.heap.size w w9 := b8.trans (c9.mono b8.size)
    clear c9
    go_wp2
    go_ret
    exact ⟨rfl, b9⟩
  · have hd : decide (n ≤ 400) = false := by simp [hn]
    rw [hd]
    clear hd
    go_wp2_with fail
    refine (awake6_any w1 (HE.out.below b1 HE.out.size)).mono ?_
    rintro e w2 ⟨rfl, b2⟩
    go_wp2
    go_ret
    exact ⟨rfl, b1.trans (b2.mono b1.size)⟩
end Go.Proofs.YtblkebjfnboclaaDoor
