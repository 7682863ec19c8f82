/- Walks of layer 2's Normalise and Normal. -/
import Derived.Test.YthplnfblpdojkaaDoorNameNorm
namespace Go.Proofs.YthplnfblpdojkaaDoor
open Go.RowKit
set_option linter.unusedVariables false
set_option maxRecDepth 100000

/-- What Normalise returns. -/
def normRet (p : ByteArray × Int) : Value := .tuple #[.string p.1, .int .i64 p.2]
theorem norm_check {r : RL} (s : ByteArray) {c : Int} (h : checkV r = c) (hc : c ≠ 0) : normVal r s = (noB, c) := by
  unfold normVal; rw [h, if_pos hc]
theorem norm_text {r : RL} (s : ByteArray) (h : checkV r = 0) (hv : validB s = false) : normVal r s = (noB, 3) := by
  unfold normVal; rw [h, if_neg (by simp), if_pos hv]
theorem norm_limit {r : RL} (s : ByteArray) (h : checkV r = 0) (hv : validB s = true) (hl : 6 < (normToks r s).length ∨ 64 < (normTxt r s).size) : normVal r s = (noB, 1) := by
  unfold normVal; rw [h, if_neg (by simp), if_neg (by rw [hv]; simp), if_pos hl]
theorem norm_fine {r : RL} (s : ByteArray) (h : checkV r = 0) (hv : validB s = true) (hl : ¬ (6 < (normToks r s).length ∨ 64 < (normTxt r s).size)) : normVal r s = (normTxt r s, 0) := by
  unfold normVal; rw [h, if_neg (by simp), if_neg (by rw [hv]; simp), if_neg hl]
theorem valid_size {s : ByteArray} (h : validB s = true) : s.size ≤ 64 ∧ (TM.fold s.data.toList).length ≤ 64 := by
  unfold validB TM.valid at h
  simp only [Bool.and_eq_true, decide_eq_true_eq] at h
  have h1 : s.data.toList.length = s.size := by simp
  have h2 := spell_len s.data.toList
  have h3 := (words_len (TM.spell s.data.toList) []).2
  simp only [List.length_nil, Nat.zero_add] at h3
  unfold TM.fold
  omega
theorem toks_bounds {r : RL} (hr : rightB r = true) (s : ByteArray) (hv : validB s = true) : (normToks r s).length ≤ 65 ∧ (∀ x ∈ normToks r s, x.size ≤ 64) ∧ (normTxt r s).size ≤ 5000 := by
  have hs := (valid_size hv).2
  have h1 := (words_len (TM.fold s.data.toList) []).1
  have h2 := left_le r (TM.words [] (TM.fold s.data.toList))
  have h3 : (normToks r s).length ≤ 65 := by unfold normToks; omega
  have h4 : ∀ x ∈ normToks r s, x.size ≤ 64 := left_size hr _ (fun t ht => by
    have := words_each _ _ t ht
    simp at this; omega)
  refine ⟨h3, h4, ?_⟩
  unfold normTxt
  rw [show (bs (TM.join ((normToks r s).map (·.data.toList)))).size = (TM.join ((normToks r s).map (·.data.toList))).length from size_of_list _]
  have h5 := join_len ((normToks r s).map (·.data.toList)) 64 (fun l hl => by
    obtain ⟨x, hx, rfl⟩ := List.mem_map.1 hl
    have := h4 x hx
    simpa using this)
  rw [List.length_map] at h5
  have : (normToks r s).length * (64 + 1) ≤ 65 * 65 := Nat.mul_le_mul_right 65 h3
  omega
theorem fold_ok {s : ByteArray} (h : validB s = true) : foldVal s = .tuple #[.string (bs (TM.fold s.data.toList)), .int .i64 0] := by unfold foldVal; rw [h]; rfl
theorem fold_no {s : ByteArray} (h : validB s = false) : foldVal s = .tuple #[.string ⟨#[]⟩, .int .i64 3] := by unfold foldVal; rw [h]; rfl

end Go.Proofs.YthplnfblpdojkaaDoor
