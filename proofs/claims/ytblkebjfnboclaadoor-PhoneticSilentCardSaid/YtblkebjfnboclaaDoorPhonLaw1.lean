/- The test that names sound alike; the walks of PhoneticKeys and PhoneticDoubles. -/
import Derived.Test.YtblkebjfnboclaaDoorPhonFacts
namespace Go.Proofs.YtblkebjfnboclaaDoor
open Go.RowKit
set_option linter.unusedVariables false
set_option maxRecDepth 100000

theorem Soundex_is (s v : ByteArray) (h : sxB s = v) (w : World) :
    Calls Tryd.prog 15 #[.string s] w fun e w' => e = .returned (.string v) ∧ Below w.heap.size w w' := by
  subst h
  exact Soundex_any s w
theorem Skeleton_is (s v : ByteArray) (h : skB s = v) (w : World) :
    Calls Tryd.prog 17 #[.string s] w fun e w' => e = .returned (.string v) ∧ Below w.heap.size w w' := by
  subst h
  exact Skeleton_any s w
theorem Key_is (s v : ByteArray) (h : kyB s = v) (hs : s.size ≤ 1048576) (w : World) (hE : Env w) :
    Calls Tryd.prog 19 #[.string s] w fun e w' => e = .returned (.string v) ∧ Below w.heap.size w w' := by
  subst h
  exact Key_any s w hE hs
theorem pSame_is (a b : ByteArray) (v : Bool) (h : smB a b = v) (ha : a.size ≤ 1048576) (hb : b.size ≤ 1048576) (w : World) (hE : Env w) :
    Calls Tryd.prog 13 #[.string a, .string b] w fun e w' => e = .returned (.bool v) ∧ Below w.heap.size w w' := by
  subst h
  exact pSame_any a b w hE ha hb

theorem robert_sx : sxB ⟨#[114, 111, 98, 101, 114, 116]⟩ = ⟨#[114, 49, 54, 51]⟩ := by decide
theorem ashcraft_sx : sxB ⟨#[97, 115, 104, 99, 114, 97, 102, 116]⟩ = ⟨#[97, 50, 54, 49]⟩ := by decide
theorem tymczak_sx : sxB ⟨#[116, 121, 109, 99, 122, 97, 107]⟩ = ⟨#[116, 53, 50, 50]⟩ := by decide
theorem robert_sk : skB ⟨#[114, 111, 98, 101, 114, 116]⟩ = ⟨#[114, 98, 114, 116]⟩ := by decide
theorem lee_ky : kyB ⟨#[32, 108, 101, 101]⟩ = ⟨#[108, 48, 48, 48]⟩ := by decide
theorem robert_ky : kyB ⟨#[114, 111, 98, 101, 114, 116, 32, 120]⟩ = ⟨#[114, 49, 54, 51]⟩ ∧ kyB ⟨#[114, 117, 112, 101, 114, 116]⟩ = ⟨#[114, 49, 54, 51]⟩ := by decide
theorem robert_sm : smB ⟨#[114, 111, 98, 101, 114, 116, 32, 120]⟩ ⟨#[114, 117, 112, 101, 114, 116]⟩ = true := by
  unfold smB
  rw [robert_ky.1, robert_ky.2, beq_self_eq_true, Lib.toList_data]
  rfl

set_option maxHeartbeats 1000000 in
theorem awake6_any (w : World) (hE : Env w) :
    Calls Tryd.prog 8 #[] w fun e w' => e = .returned (.bool true) ∧ Below w.heap.size w w' := by
  have HE := Lib.hid hE
  clear hE
  go_enter Tryd.func8, Tryd.ntmps8
  go_wp2_with fail
  refine (Soundex_is _ _ robert_sx w).mono ?_
  rintro e w1 ⟨rfl, b1⟩
  go_wp2_with fail
  refine (Soundex_is _ _ ashcraft_sx w1).mono ?_
  rintro e w2 ⟨rfl, b2⟩
  go_wp2_with fail
  refine (Soundex_is _ _ tymczak_sx w2).mono ?_
  rintro e w3 ⟨rfl, b3⟩
  go_wp2_with fail
  refine (Skeleton_is _ _ robert_sk w3).mono ?_
  rintro e w4 ⟨rfl, b4⟩
  have B4 : Below w.heap.size w w4 := b1.trans ((b2.trans ((b3.trans (b4.mono b3.size)).mono b2.size)).mono b1.size)
  go_wp2_with fail
  refine (pSame_is _ _ _ robert_sm (by decide) (by decide) w4 (HE.out.below B4 HE.out.size)).mono ?_
  rintro e w5 ⟨rfl, b5⟩
  have B5 : Below w.heap.size w w5 := B4.trans (b5.mono B4.size)
  go_wp2_with fail
  refine (Key_is _ _ lee_ky (by decide) w5 (HE.out.below B5 HE.out.size)).mono ?_
  rintro e w6 ⟨rfl, b6⟩
  have B6 : Below w.heap.size w w6 := B5.trans (b6.mono B5.size)
  go_wp2
  go_ret
  exact ⟨rfl, B6⟩

theorem ph_below {w w' : World} {g B : Nat} (h : w.grownBy w' (some g)) (hB : B ≤ g) (hg : g < w.heap.size) : Below B w w' := below_of_grown h hB (by omega)
end Go.Proofs.YtblkebjfnboclaaDoor
