/- The contracts over rows of this call's own; the sanity check of layer 5's statements. -/
import Derived.Test.YtjdjjehdognpiaaDoorGramRef2
namespace Go.Proofs.YtjdjjehdognpiaaDoor
open Go.RowKit
set_option linter.unusedVariables false
set_option maxRecDepth 100000

theorem fit_bs {A : List (List UInt8)} (hz : ∀ z ∈ A, z.length ≤ 1048576) : ∀ x ∈ A.map bs, x.size ≤ 1048576 := by
  intro x hx
  obtain ⟨z, h, rfl⟩ := List.mem_map.1 hx
  have : (bs z).size = z.length := size_of_list z
  rw [this]
  exact hz z h
theorem fit_two {A : List (List UInt8)} (h : ∀ z ∈ A, z.length = 2) : ∀ z ∈ A, z.length ≤ 1048576 := fun z hz => by rw [h z hz]; decide
/-- What one world has of a row, a later one has too. -/
theorem OwnsL.below {base : Nat} {w w' : World} {v : Value} {L : List (List UInt8)} (h : OwnsL base w v L) (hb : Below w.heap.size w w') : OwnsL base w' v L := by
  rcases h with ⟨h1, h2⟩
  refine ⟨h1, ?_⟩
  rcases h2 with h2 | ⟨g, cap, cur, rfl, hbg, hh, hrest⟩
  · exact .inl h2
  · exact .inr ⟨g, cap, cur, rfl, hbg, (hb.block g (Array.getElem?_eq_some_iff.1 hh).1).trans hh, hrest⟩
theorem OwnsL.deck {base g : Nat} {w w' : World} {v : Value} {L : List (List UInt8)} (h : OwnsL base w v L) (hg : w.grownBy w' (some g)) (hb : g < base) : OwnsL base w' v L :=
  owns_grown h hg (fun q hq e => by injection hq with hq; have := (owns_at h e).1; omega)

theorem Dice_lists {b1 b2 : Nat} {v u : Value} {A B : List (List UInt8)} {w : World} (h : OwnsL b1 w v A) (h' : OwnsL b2 w u B) (hl : A.length ≤ 1000000) (hl' : B.length ≤ 1000000) (hz : ∀ z ∈ A, z.length ≤ 1048576) (hz' : ∀ z ∈ B, z.length ≤ 1048576) :
    Calls Tryd.prog 22 #[v, u] w fun e w' => e = .returned (.int .i64 (GM.diceN A B)) ∧ Below w.heap.size w w' := by
  have := Dice_any _ _ v u (A.map bs) (B.map bs) w h.texts h'.texts (Nat.le_refl _) (Nat.le_refl _) (by rw [List.length_map]; exact hl) (by rw [List.length_map]; exact hl') (fit_bs hz) (fit_bs hz')
  rw [map_bs, map_bs] at this
  exact this
theorem Common_lists {b1 b2 : Nat} {v u : Value} {A B : List (List UInt8)} {w : World} (h : OwnsL b1 w v A) (h' : OwnsL b2 w u B) (hl : A.length ≤ 1000000) (hl' : B.length ≤ 1000000) (hz : ∀ z ∈ A, z.length ≤ 1048576) (hz' : ∀ z ∈ B, z.length ≤ 1048576) :
    Calls Tryd.prog 20 #[v, u] w fun e w' => e = .returned (.int .i64 (GM.commonN A B)) ∧ Below w.heap.size w w' := by
  have := Common_any _ _ v u (A.map bs) (B.map bs) w h.texts h'.texts (Nat.le_refl _) (Nat.le_refl _) (by rw [List.length_map]; exact hl) (by rw [List.length_map]; exact hl') (fit_bs hz) (fit_bs hz')
  rw [map_bs, map_bs] at this
  exact this
theorem rSet_lists {b1 : Nat} {v : Value} {A : List (List UInt8)} {w : World} (h : OwnsL b1 w v A) (hl : A.length ≤ 900) :
    Calls Tryd.prog 25 #[v] w fun e w' => ∃ u, e = .returned u ∧ OwnsL w.heap.size w' u (GM.setL A) ∧ Below w.heap.size w w' := by
  have := rSet_any _ v (A.map bs) w h.texts (Nat.le_refl _) (by rw [List.length_map]; exact hl)
  rw [map_bs] at this
  exact this
theorem same_lists (A B : List (List UInt8)) : sameB (A.map bs) (B.map bs) = decide (A = B) := by
  unfold sameB
  rw [map_bs, map_bs]
theorem Same_lists {b1 b2 : Nat} {v u : Value} {A B : List (List UInt8)} {w : World} (h : OwnsL b1 w v A) (h' : OwnsL b2 w u B) :
    Calls Tryd.prog 14 #[v, u] w fun e w' => e = .returned (.bool (decide (A = B))) ∧ Below w.heap.size w w' := by
  have := rSame_any _ v u (A.map bs) (B.map bs) w h.texts h'.texts
  rw [same_lists] at this
  exact this

/-! ### the sanity check -/
def annG : List (List UInt8) := [[95, 97], [97, 110], [110, 95], [110, 110]]
def anG : List (List UInt8) := [[95, 97], [97, 110], [110, 95]]
theorem ann_val : GM.gramsL [97, 110, 110] = annG := by decide +kernel
theorem an_val : GM.gramsL [97, 110] = anG := by decide +kernel
theorem ann_dice : GM.diceN annG anG = 857 := by decide +kernel
theorem twenty_val : GM.posL [50, 48] = [[97, 50], [98, 48]] := by decide +kernel

set_option maxHeartbeats 1000000 in
theorem awake5_any (w : World) (hE : Env w) :
    Calls Tryd.prog 8 #[] w fun e w' => e = .returned (.bool true) ∧ Below w.heap.size w w' := by
  have HE := Lib.hid hE
  clear hE
  have h1 := Grams_any ⟨#[97, 110, 110]⟩ w HE.out (by decide)
  rw [show (⟨#[97, 110, 110]⟩ : ByteArray).data.toList = [97, 110, 110] from rfl, ann_val] at h1
  have H1 := Lib.hid h1
  clear h1
  go_enter Tryd.func8, Tryd.ntmps8
  go_wp2_with fail
  refine H1.out.mono ?_
  rintro e w1 ⟨v1, rfl, o1, b1⟩
  have HO1 := Lib.hid o1
  obtain ⟨g, cap, rfl, h1, h2, h3, h4, h5⟩ := owns_form o1 (.inr (by decide)) (by decide)
  have hc0 : w1.cell? ⟨g, 0, none⟩ = some (.string ⟨#[95, 97]⟩) := h5 0 (by decide)
  have hc3 : w1.cell? ⟨g, 3, none⟩ = some (.string ⟨#[110, 110]⟩) := h5 3 (by decide)
  have hlen : annG.length = 4 := rfl
  rw [hlen] at h1 ⊢
  unfold maxLen at h2
  have hE1 := HE.out.below b1 HE.out.size
  have h6 := Grams_any ⟨#[97, 110]⟩ w1 hE1 (by decide)
  rw [show (⟨#[97, 110]⟩ : ByteArray).data.toList = [97, 110] from rfl, an_val] at h6
  have H6 := Lib.hid h6
  clear h5 h6 o1 hE1
  go_wp2_with fail
  refine H6.out.mono ?_
  rintro e w2 ⟨v2, rfl, o2, b2⟩
  have hD := Dice_lists (HO1.out.below b2) o2 (by decide) (by decide) (by decide) (by decide)
  rw [ann_dice, hlen] at hD
  have HD := Lib.hid hD
  clear hD o2
  go_wp2_with fail
  refine HD.out.mono ?_
  rintro e w3 ⟨rfl, b3⟩
  have h7 := Positional_any ⟨#[50, 48]⟩ w3 (by decide)
  rw [show (⟨#[50, 48]⟩ : ByteArray).data.toList = [50, 48] from rfl, twenty_val] at h7
  have H7 := Lib.hid h7
  clear h7
  go_wp2_with fail
  refine H7.out.mono ?_
  rintro e w4 ⟨v4, rfl, o4, b4⟩
  obtain ⟨a4, c4, rfl, -, -, -⟩ := owns_read o4
  go_wp2
  go_ret
  exact ⟨rfl, b1.trans ((b2.trans ((b3.trans (b4.mono b3.size)).mono b2.size)).mono b1.size)⟩
end Go.Proofs.YtjdjjehdognpiaaDoor
