/- The sanity check of layer 4's statements. -/
import Derived.Test.YthplnfblpdojkaaDoorAddrNorm
import Derived.Test.YthplnfblpdojkaaDoorNameLaws4
namespace Go.Proofs.YthplnfblpdojkaaDoor
open Go.RowKit
set_option linter.unusedVariables false
set_option maxRecDepth 100000

def rStreet : RL := ⟨[], [], [(⟨#[115, 116]⟩, ⟨#[115, 116, 114, 101, 101, 116]⟩)]⟩
def rawStreet : ByteArray := ⟨#[49, 50, 32, 77, 97, 105, 110, 32, 83, 116, 46]⟩
def outStreet : ByteArray := ⟨#[109, 97, 105, 110, 32, 115, 116, 114, 101, 101, 116, 32, 49, 50]⟩
def rawCode : ByteArray := ⟨#[83, 87, 49, 65, 32, 49, 65, 65]⟩
def outCode : ByteArray := ⟨#[115, 119, 49, 97, 49, 97, 97]⟩
theorem street_check : checkV rStreet = 0 := by
  simp only [rStreet, checkV, longB, rightB, areTokB, arePairsB, makesB, tokAt, orderAt, tokB, hasB, geS, froms, Lib.toList_data]
  decide +kernel
theorem street_val : adrVal rStreet rawStreet = (outStreet, 0) := by
  have hv : validB rawStreet = true := by decide +kernel
  have hw : wordsB (foldB rawStreet) = [⟨#[49, 50]⟩, ⟨#[109, 97, 105, 110]⟩, ⟨#[115, 116]⟩] := by
    have : TM.words [] (foldB rawStreet).data.toList = [[49, 50], [109, 97, 105, 110], [115, 116]] := by decide +kernel
    unfold wordsB
    rw [this]; rfl
  have ht : adrToks rStreet (wordsB (foldB rawStreet)) = [⟨#[109, 97, 105, 110]⟩, ⟨#[115, 116, 114, 101, 101, 116]⟩, ⟨#[49, 50]⟩] := by
    rw [hw]
    unfold adrToks restOf numsOf canonB rStreet
    simp only [Lib.toList_data]
    decide +kernel
  have hx : adrTxt rStreet rawStreet = outStreet := by
    unfold adrTxt
    rw [ht]
    decide +kernel
  rw [adr_fine rawStreet street_check hv (by rw [ht, hx]; decide), hx]
theorem code_val : codeVal rawCode = (outCode, 0) := by
  have hv : validB rawCode = true := by decide +kernel
  have hx : codeTxt rawCode = outCode := by decide +kernel
  rw [code_fine hv (by rw [hx]; decide), hx]
theorem street_words : wordsB outStreet = [⟨#[109, 97, 105, 110]⟩, ⟨#[115, 116, 114, 101, 101, 116]⟩, ⟨#[49, 50]⟩] := by
  have : TM.words [] outStreet.data.toList = [[109, 97, 105, 110], [115, 116, 114, 101, 101, 116], [49, 50]] := by decide +kernel
  unfold wordsB
  rw [this]; rfl
theorem street_num : numOf outStreet = ⟨#[49, 50]⟩ := by
  unfold numOf
  rw [street_words]; decide
theorem street_of : streetOf outStreet = ⟨#[109, 97, 105, 110, 32, 115, 116, 114, 101, 101, 116]⟩ := by
  unfold streetOf
  rw [street_words]; decide

theorem lit_one (V : World) (a b : ByteArray) : Below V.heap.size V ((V.alloc (.cells #[.string a, .string b] 46)).alloc (.cells #[.slice none 0 0, .slice none 0 0, .slice (some ⟨V.heap.size, 0, none⟩) 1 1] 30)) ∧
    Box ((V.alloc (.cells #[.string a, .string b] 46)).alloc (.cells #[.slice none 0 0, .slice none 0 0, .slice (some ⟨V.heap.size, 0, none⟩) 1 1] 30)) (V.heap.size + 1) (.slice none 0 0) (.slice none 0 0) (.slice (some ⟨V.heap.size, 0, none⟩) 1 1) ∧
    IsRules (V.heap.size + 2) ((V.alloc (.cells #[.string a, .string b] 46)).alloc (.cells #[.slice none 0 0, .slice none 0 0, .slice (some ⟨V.heap.size, 0, none⟩) 1 1] 30)) (.agg #[.slice none 0 0, .slice none 0 0, .slice (some ⟨V.heap.size, 0, none⟩) 1 1]) ⟨[], [], [(a, b)]⟩ ∧
    ((V.alloc (.cells #[.string a, .string b] 46)).alloc (.cells #[.slice none 0 0, .slice none 0 0, .slice (some ⟨V.heap.size, 0, none⟩) 1 1] 30)).heap.size = V.heap.size + 2 := by
  refine ⟨((Below.refl _ _).alloc (Nat.le_refl _) _).alloc (by simp) _, ?_, ⟨_, _, _, rfl, texts_nil _ _, pairs_nil _ _, ?_⟩, by simp⟩
  · have := Box.new (V.alloc (.cells #[.string a, .string b] 46)) (.slice none 0 0) (.slice none 0 0) (.slice (some ⟨V.heap.size, 0, none⟩) 1 1)
    simpa using this
  · exact ((pairs_lit V [(a, b)] (by simp [maxLen])).keep ((Below.refl _ _).alloc (by simp) _)).more (by omega)

set_option maxHeartbeats 1000000 in
theorem awake4_any (w : World) (hE : Env w) :
    Calls Tryd.prog 7 #[] w fun e w' => e = .returned (.bool true) ∧ Below w.heap.size w w' := by
  have HE := Lib.hid hE
  clear hE
  obtain ⟨l1, l2, l3, l4⟩ := lit_one w ⟨#[115, 116]⟩ ⟨#[115, 116, 114, 101, 101, 116]⟩
  have bW := Lib.hid l1
  have HB := Lib.hid l2
  have HR := Lib.hid (show IsRules _ _ _ rStreet from l3)
  clear l1 l2 l3
  go_enter Tryd.func7, Tryd.ntmps7
  go_wp2_with fail
  generalize ((w.alloc (.cells #[.string ⟨#[115, 116]⟩, .string ⟨#[115, 116, 114, 101, 101, 116]⟩] 46)).alloc (.cells #[.slice none 0 0, .slice none 0 0, .slice (some ⟨w.heap.size, 0, none⟩) 1 1] 30)) = W at *
  have hp : w.heap.size + 1 < W.heap.size := by omega
  have HEW := Lib.hid (HE.out.below bW.out HE.out.size)
  have hN := adrNormalise_any (w.heap.size + 2) _ rStreet rawStreet W HEW.out HR.out (by omega) (by decide)
  rw [street_val] at hN
  unfold normRet at hN
  have HN := Lib.hid hN
  clear hN
  refine HN.out.mono ?_
  rintro e w1 ⟨rfl, b1⟩
  have b1' := bW.out.trans (b1.mono (by omega))
  have hC := Code_any rawCode w1 (HE.out.below b1' HE.out.size) (by decide)
  rw [code_val] at hC
  unfold normRet at hC
  have HC := Lib.hid hC
  clear hC
  unfold outStreet
  go_wp2_with fail
  refine HC.out.mono ?_
  rintro e w2 ⟨rfl, b2⟩
  have b2' := b1'.trans (b2.mono b1'.size)
  unfold outCode
  have hNu := Number_any outStreet w2 (HE.out.below b2' HE.out.size) (by decide)
  rw [street_num] at hNu
  unfold outStreet at hNu
  have HNu := Lib.hid hNu
  clear hNu
  go_wp2_with fail
  refine HNu.out.mono ?_
  rintro e w3 ⟨rfl, b3⟩
  have b3' := b2'.trans (b3.mono b2'.size)
  have hSt := Street_any outStreet w3 (HE.out.below b3' HE.out.size) (by decide)
  rw [street_of] at hSt
  unfold outStreet at hSt
  have HSt := Lib.hid hSt
  clear hSt
  go_wp2_with fail
  refine HSt.out.mono ?_
  rintro e w4 ⟨rfl, b4⟩
  have b4' := b3'.trans (b4.mono b3'.size)
  go_wp2
  go_ret
  exact ⟨rfl, b4'⟩
end Go.Proofs.YthplnfblpdojkaaDoor
