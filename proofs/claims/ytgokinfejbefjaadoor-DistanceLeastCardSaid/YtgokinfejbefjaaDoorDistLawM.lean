/- Walks of the laws' own helpers: awake, some (changes drawn by the deck) and bent (a text behind some changes). -/
import Derived.Test.YtgokinfejbefjaaDoorDistScr2
namespace Go.Proofs.YtgokinfejbefjaaDoor
open Go.RowKit
set_option linter.unusedVariables false
set_option maxRecDepth 100000

theorem d_swap : DM.d [116, 114, 97, 109] [114, 116, 97, 109] = 1 := by
  have h1 := DM.up4 116 114 [97, 109] [97, 109]
  rw [DM.self] at h1
  have h2 : DM.d [116, 114, 97, 109] [114, 116, 97, 109] ≠ 0 := fun h => absurd ((DM.zero_iff _ _).1 h) (by decide)
  omega
theorem edit_one : editN ⟨#[109, 97, 114, 116, 97]⟩ ⟨#[109, 97, 116, 114, 97]⟩ = (1, 0) := by
  unfold editN
  rw [if_neg (by decide)]
  have e : distB ⟨#[109, 97, 114, 116, 97]⟩ ⟨#[109, 97, 116, 114, 97]⟩ = DM.d (97 :: [116, 114, 97, 109]) (97 :: [114, 116, 97, 109]) := rfl
  rw [e, DM.same, d_swap]
theorem edit_three : editN ⟨#[99, 97]⟩ ⟨#[97, 98, 99]⟩ = (3, 0) := by
  unfold editN
  rw [if_neg (by decide)]
  have e : distB ⟨#[99, 97]⟩ ⟨#[97, 98, 99]⟩ = DM.d [97, 99] [99, 98, 97] := rfl
  rw [e]
  have e2 : DM.d [97, 99] [99, 98, 97] = 3 := by simp [DM.d]
  rw [e2]
theorem script_one : scN ⟨#[109, 97, 114, 116, 97]⟩ ⟨#[109, 97, 116, 114, 97]⟩ = ([(4, 2, 0)], 0) := by
  unfold scN
  rw [if_neg (by decide), scrN_all]
  have e : DM.script (⟨#[109, 97, 114, 116, 97]⟩ : ByteArray).data.toList (⟨#[109, 97, 116, 114, 97]⟩ : ByteArray).data.toList = DM.scr (97 :: [116, 114, 97, 109]) (97 :: [114, 116, 97, 109]) := rfl
  have ne : ∀ xs ys, xs ≠ ys → ¬ (1 = DM.d xs ys + 1) := fun xs ys h h2 => h ((DM.zero_iff _ _).1 (by omega))
  rw [e, DM.scr, if_pos rfl, DM.scr, if_neg (by decide), d_swap, if_neg (ne _ _ (by decide)), if_neg (ne _ _ (by decide)), if_neg (ne _ _ (by decide))]
  have e2 : DM.scr ([114, 97, 109] : List UInt8).tail ([116, 97, 109] : List UInt8).tail = [] := by
    show DM.scr [97, 109] [97, 109] = []
    rw [DM.scr, if_pos rfl, DM.scr, if_pos rfl, DM.scr]
  rw [e2]
  rfl

/-- A script proves itself. -/
theorem script_ap (a b : ByteArray) (ha : a.size ≤ 64) (hb : b.size ≤ 64) : apN a (scrN a b a.size b.size) = (b, 0) := by
  obtain ⟨h1, h2, h3, h4⟩ := DM.script_all a.data.toList b.data.toList
  rw [scrN_all]
  rw [size_list] at h2
  unfold apN
  rw [if_neg (by omega), if_neg (by rw [h1]; decide), if_neg (by rw [h2]; decide), h3, size_list, if_neg (by omega), bs_list]
theorem script_pr (a b : ByteArray) (ha : a.size ≤ 64) (hb : b.size ≤ 64) : prB a b (scrN a b a.size b.size) = true := by
  unfold prB
  rw [script_ap a b ha hb]
  simp
end Go.Proofs.YtgokinfejbefjaaDoor
