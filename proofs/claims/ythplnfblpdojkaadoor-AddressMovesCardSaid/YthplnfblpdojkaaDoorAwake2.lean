/- The sanity check of layer 2's statements; what dealt rules are. -/
import Derived.Test.YthplnfblpdojkaaDoorDeckRules
import Derived.Test.YthplnfblpdojkaaDoorAwake
namespace Go.Proofs.YthplnfblpdojkaaDoor
open Go.RowKit
set_option linter.unusedVariables false
set_option maxRecDepth 100000

def rAwake : RL := ⟨[⟨#[100, 114]⟩], [(⟨#[98, 111, 98]⟩, ⟨#[114, 111, 98, 101, 114, 116]⟩)], []⟩
def rawAwake : ByteArray := ⟨#[68, 114, 46, 32, 66, 111, 98, 32, 32, 83, 109, 105, 116, 104, 32, 50]⟩
def outAwake : ByteArray := ⟨#[114, 111, 98, 101, 114, 116, 32, 115, 109, 105, 116, 104]⟩
theorem lettersOf_eq (t : List UInt8) : lettersOf t = ⟨(t.filter TM.lower).toArray⟩ := rfl
theorem awake_check : checkV rAwake = 0 := by
  simp only [checkV, longB, rightB, areTokB, arePairsB, makesB, tokAt, orderAt, tokB, hasB, geS, froms, Lib.toList_data]
  decide +kernel
theorem awake_norm : normVal rAwake rawAwake = (outAwake, 0) := by
  have hv : validB rawAwake = true := by decide +kernel
  have hw : TM.words [] (TM.fold rawAwake.data.toList) = [[100, 114], [98, 111, 98], [115, 109, 105, 116, 104], [50]] := by decide +kernel
  have ht : normToks rAwake rawAwake = [⟨#[114, 111, 98, 101, 114, 116]⟩, ⟨#[115, 109, 105, 116, 104]⟩] := by
    unfold normToks
    rw [hw]
    unfold leftB left1 canonB hasB
    simp only [Lib.toList_data]
    decide +kernel
  have hx : normTxt rAwake rawAwake = outAwake := by
    unfold normTxt
    rw [ht]
    decide +kernel
  rw [norm_fine rawAwake awake_check hv (by rw [ht, hx]; decide), hx]
theorem awake_canon : canonB rAwake.nicks ⟨#[98, 111, 98]⟩ = ⟨#[114, 111, 98, 101, 114, 116]⟩ := by
  unfold canonB
  simp only [Lib.toList_data]
  decide +kernel
theorem awake_drop : hasB rAwake.titles ⟨#[100, 114]⟩ = true := by
  unfold hasB
  simp only [Lib.toList_data]
  decide +kernel

theorem dealt_check {r : RL} (h : Dealt r) : checkV r = 0 := by
  obtain ⟨t, n, s⟩ := r
  obtain ⟨h1, h2, h3⟩ := h
  dsimp only at h1 h2 h3
  rcases h1 with rfl | rfl <;> rcases h2 with rfl | rfl <;> rcases h3 with rfl | rfl <;>
  · simp only [checkV, longB, rightB, areTokB, arePairsB, makesB, tokAt, orderAt, tokB, hasB, geS, froms, Lib.toList_data]
    decide +kernel
theorem dealt_apart {r : RL} (h : Dealt r) : ∀ p ∈ r.nicks, hasB r.titles p.1 = false := by
  obtain ⟨t, n, s⟩ := r
  obtain ⟨h1, h2, h3⟩ := h
  dsimp only at h1 h2 h3
  unfold hasB
  simp only [Lib.toList_data]
  rcases h1 with rfl | rfl <;> rcases h2 with rfl | rfl <;> decide +kernel

/-- The three cells of a box. -/
def Box (W : World) (p : Nat) (tv nv sv : Value) : Prop := W.cell? ⟨p, 0, none⟩ = some tv ∧ W.cell? ⟨p, 1, none⟩ = some nv ∧ W.cell? ⟨p, 2, none⟩ = some sv
theorem Box.below {W W' : World} {p B : Nat} {tv nv sv : Value} (h : Box W p tv nv sv) (hb : Below B W W') (hp : p < B) : Box W' p tv nv sv :=
  ⟨(hb.cell (p := ⟨p, 0, none⟩) hp).trans h.1, (hb.cell (p := ⟨p, 1, none⟩) hp).trans h.2.1, (hb.cell (p := ⟨p, 2, none⟩) hp).trans h.2.2⟩
theorem Box.new (W : World) (tv nv sv : Value) : Box (W.alloc (.cells #[tv, nv, sv] 30)) W.heap.size tv nv sv := ⟨by simp, by simp, by simp⟩

end Go.Proofs.YthplnfblpdojkaaDoor
