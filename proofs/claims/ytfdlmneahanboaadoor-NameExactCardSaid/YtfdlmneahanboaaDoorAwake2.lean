/- The sanity check of layer 2's statements; what dealt rules are. -/
import Derived.Test.YtfdlmneahanboaaDoorDeckRules
import Derived.Test.YtfdlmneahanboaaDoorAwake
namespace Go.Proofs.YtfdlmneahanboaaDoor
open Go.RowKit
set_option linter.unusedVariables false

def rAwake : RL := ⟨[⟨#[100, 114]⟩], [(⟨#[98, 111, 98]⟩, ⟨#[114, 111, 98, 101, 114, 116]⟩)], []⟩
def rawAwake : ByteArray := ⟨#[68, 114, 46, 32, 66, 111, 98, 32, 32, 83, 109, 105, 116, 104, 32, 50]⟩
def outAwake : ByteArray := ⟨#[114, 111, 98, 101, 114, 116, 32, 115, 109, 105, 116, 104]⟩
theorem lettersOf_eq (t : List UInt8) : lettersOf t = ⟨(t.filter TM.lower).toArray⟩ := rfl
theorem awake_check : checkV rAwake = 0 := by
  simp only [checkV, longB, rightB, areTokB, arePairsB, makesB, tokAt, orderAt, tokB, hasB, geS, froms, Lib.toList_data]
  decide +kernel
theorem awake_norm : normVal rAwake rawAwake = (outAwake, 0) := by
  have hv : validB rawAwake = true := by decide +kernel
  have hw : TM.words [] (TM.fold rawAwake.data.toList) = [[100, 114], [98, 111, 98], [115, 109, 105, 116, 104], [50]] := by decide +kernel
  have ht : normToks rAwake rawAwake = [⟨#[114, 111, 98, 101, 114, 116]⟩, ⟨#[115, 109, 105, 116, 104]⟩] := by
    unfold normToks
    rw [hw]
    unfold leftB left1 canonB hasB
    simp only [Lib.toList_data]
    decide +kernel
  have hx : normTxt rAwake rawAwake = outAwake := by
    unfold normTxt
    rw [ht]
    decide +kernel
  rw [norm_fine rawAwake awake_check hv (by rw [ht, hx]; decide), hx]
theorem awake_canon : canonB rAwake.nicks ⟨#[98, 111, 98]⟩ = ⟨#[114, 111, 98, 101, 114, 116]⟩ := by
  unfold canonB
  simp only [Lib.toList_data]
  decide +kernel
theorem awake_drop : hasB rAwake.titles ⟨#[100, 114]⟩ = true := by
  unfold hasB
  simp only [Lib.toList_data]
  decide +kernel

theorem dealt_check {r : RL} (h : Dealt r) : checkV r = 0 := by
  obtain ⟨t, n, s⟩ := r
  obtain ⟨h1, h2, h3⟩ := h
  dsimp only at h1 h2 h3
  rcases h1 with rfl | rfl <;> rcases h2 with rfl | rfl <;> rcases h3 with rfl | rfl <;>
  · simp only [checkV, longB, rightB, areTokB, arePairsB, makesB, tokAt, orderAt, tokB, hasB, geS, froms, Lib.toList_data]
    decide +kernel
theorem dealt_apart {r : RL} (h : Dealt r) : ∀ p ∈ r.nicks, hasB r.titles p.1 = false := by
  obtain ⟨t, n, s⟩ := r
  obtain ⟨h1, h2, h3⟩ := h
  dsimp only at h1 h2 h3
  unfold hasB
  simp only [Lib.toList_data]
  rcases h1 with rfl | rfl <;> rcases h2 with rfl | rfl <;> decide +kernel

/-- The three cells of a box. -/
def Box (W : World) (p : Nat) (tv nv sv : Value) : Prop := W.cell? ⟨p, 0, none⟩ = some tv ∧ W.cell? ⟨p, 1, none⟩ = some nv ∧ W.cell? ⟨p, 2, none⟩ = some sv
theorem Box.below {W W' : World} {p B : Nat} {tv nv sv : Value} (h : Box W p tv nv sv) (hb : Below B W W') (hp : p < B) : Box W' p tv nv sv :=
  ⟨(hb.cell (p := ⟨p, 0, none⟩) hp).trans h.1, (hb.cell (p := ⟨p, 1, none⟩) hp).trans h.2.1, (hb.cell (p := ⟨p, 2, none⟩) hp).trans h.2.2⟩
theorem Box.new (W : World) (tv nv sv : Value) : Box (W.alloc (.cells #[tv, nv, sv] 26)) W.heap.size tv nv sv := ⟨by simp, by simp, by simp⟩

set_option maxHeartbeats 1000000 in
theorem awake2_any (w : World) (hE : Env w) :
    Calls Tryd.prog 9 #[] w fun e w' => e = .returned (.bool true) ∧ Below w.heap.size w w' := by
  have HE := Lib.hid hE
  clear hE
  go_enter Tryd.func9, Tryd.ntmps9
  go_wp2_with fail
  have bW : Below w.heap.size w (((w.alloc (.cells #[.string ⟨#[100, 114]⟩] 9)).alloc (.cells #[.string ⟨#[98, 111, 98]⟩, .string ⟨#[114, 111, 98, 101, 114, 116]⟩] 49)).alloc (.cells #[.slice (some ⟨w.heap.size, 0, none⟩) 1 1, .slice (some ⟨w.heap.size + 1, 0, none⟩) 1 1, .slice none 0 0] 26)) :=
    (((Below.refl _ w).alloc (Nat.le_refl _) _).alloc (by simp) _).alloc (by simp; omega) _
  have hR : IsRules (((w.alloc (.cells #[.string ⟨#[100, 114]⟩] 9)).alloc (.cells #[.string ⟨#[98, 111, 98]⟩, .string ⟨#[114, 111, 98, 101, 114, 116]⟩] 49)).alloc (.cells #[.slice (some ⟨w.heap.size, 0, none⟩) 1 1, .slice (some ⟨w.heap.size + 1, 0, none⟩) 1 1, .slice none 0 0] 26)).heap.size (((w.alloc (.cells #[.string ⟨#[100, 114]⟩] 9)).alloc (.cells #[.string ⟨#[98, 111, 98]⟩, .string ⟨#[114, 111, 98, 101, 114, 116]⟩] 49)).alloc (.cells #[.slice (some ⟨w.heap.size, 0, none⟩) 1 1, .slice (some ⟨w.heap.size + 1, 0, none⟩) 1 1, .slice none 0 0] 26))
      (.agg #[.slice (some ⟨w.heap.size, 0, none⟩) 1 1, .slice (some ⟨w.heap.size + 1, 0, none⟩) 1 1, .slice none 0 0]) rAwake := by
    have h1 := texts_lit w rAwake.titles (by decide)
    have h2 := pairs_lit (w.alloc (.cells (rAwake.titles.map Value.string).toArray 9)) rAwake.nicks (by decide)
    have h2' := (h2.keep (below_alloc _ (.cells #[.slice (some ⟨w.heap.size, 0, none⟩) 1 1, .slice (some ⟨w.heap.size + 1, 0, none⟩) 1 1, .slice none 0 0] 26) |>.mono (by simp))).more (B' := w.heap.size + 3) (by simp)
    have h1' := (h1.keep ((((Below.refl _ _).alloc (by simp) (.cells (pairCells rAwake.nicks).toArray 49)).alloc (by simp) (.cells #[.slice (some ⟨w.heap.size, 0, none⟩) 1 1, .slice (some ⟨w.heap.size + 1, 0, none⟩) 1 1, .slice none 0 0] 26)))).more (B' := w.heap.size + 3) (by omega)
    refine ⟨_, _, _, rfl, ?_, ?_, ⟨none, 0, rfl, Nat.le_refl _, Nat.zero_le _, .inl rfl⟩⟩
    · exact h1'.more (by simp)
    · simp only [World.size_alloc] at h2'
      exact h2'.more (by simp)
  have hB := Box.new ((w.alloc (.cells #[.string ⟨#[100, 114]⟩] 9)).alloc (.cells #[.string ⟨#[98, 111, 98]⟩, .string ⟨#[114, 111, 98, 101, 114, 116]⟩] 49)) (.slice (some ⟨w.heap.size, 0, none⟩) 1 1) (.slice (some ⟨w.heap.size + 1, 0, none⟩) 1 1) (.slice none 0 0)
  simp only [World.size_alloc] at hB
  have hp : w.heap.size + 1 + 1 < (((w.alloc (.cells #[.string ⟨#[100, 114]⟩] 9)).alloc (.cells #[.string ⟨#[98, 111, 98]⟩, .string ⟨#[114, 111, 98, 101, 114, 116]⟩] 49)).alloc (.cells #[.slice (some ⟨w.heap.size, 0, none⟩) 1 1, .slice (some ⟨w.heap.size + 1, 0, none⟩) 1 1, .slice none 0 0] 26)).heap.size := by simp
  generalize (((w.alloc (.cells #[.string ⟨#[100, 114]⟩] 9)).alloc (.cells #[.string ⟨#[98, 111, 98]⟩, .string ⟨#[114, 111, 98, 101, 114, 116]⟩] 49)).alloc (.cells #[.slice (some ⟨w.heap.size, 0, none⟩) 1 1, .slice (some ⟨w.heap.size + 1, 0, none⟩) 1 1, .slice none 0 0] 26)) = W at *
  have HR := Lib.hid hR
  have HB := Lib.hid hB
  clear hR hB
  have HN := Lib.hid awake_norm
  have HEW := Lib.hid (HE.out.below bW HE.out.size)
  have hN := Normalise_any W.heap.size _ rAwake rawAwake W HEW.out HR.out (Nat.le_refl _) (by decide)
  rw [awake_norm] at hN
  have HNn := Lib.hid hN
  clear hN
  refine HNn.out.mono ?_
  rintro e w1 ⟨rfl, b1⟩
  obtain ⟨g0, g1, g2⟩ := HB.out.below b1 hp
  unfold normRet outAwake
  have hCk := Check_any W.heap.size _ rAwake w1 (HR.out.keep b1) b1.size
  rw [awake_check] at hCk
  have HCk := Lib.hid hCk
  clear hCk
  go_wp2_with fail
  refine HCk.out.mono ?_
  rintro e w2 ⟨rfl, b2⟩
  have b2' := b1.trans (b2.mono b1.size)
  clear g0 g1 g2
  obtain ⟨g0, g1, g2⟩ := HB.out.below b2' hp
  have hCn := Canonical_any W.heap.size _ rAwake ⟨#[98, 111, 98]⟩ w2 (HR.out.keep b2') b2'.size
  rw [awake_canon] at hCn
  have HCn := Lib.hid hCn
  clear hCn
  go_wp2_with fail
  refine HCn.out.mono ?_
  rintro e w3 ⟨rfl, b3⟩
  have b3' := b2'.trans (b3.mono b2'.size)
  clear g0 g1 g2
  obtain ⟨g0, g1, g2⟩ := HB.out.below b3' hp
  have hDr := Dropped_any W.heap.size _ rAwake ⟨#[100, 114]⟩ w3 (HR.out.keep b3') b3'.size
  rw [awake_drop] at hDr
  have HDr := Lib.hid hDr
  clear hDr
  go_wp2_with fail
  refine HDr.out.mono ?_
  rintro e w4 ⟨rfl, b4⟩
  have b4' := b3'.trans (b4.mono b3'.size)
  clear g0 g1 g2
  go_wp2
  go_ret
  exact ⟨rfl, bW.trans (b4'.mono bW.size)⟩
end Go.Proofs.YtfdlmneahanboaaDoor
