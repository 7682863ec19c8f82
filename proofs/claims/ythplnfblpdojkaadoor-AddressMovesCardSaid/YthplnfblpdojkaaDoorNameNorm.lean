/- Walks of layer 2's Normalise and Normal, and the reference's. -/
import Derived.Test.YthplnfblpdojkaaDoorNameRules4
namespace Go.Proofs.YthplnfblpdojkaaDoor
open Go.RowKit
set_option linter.unusedVariables false
set_option maxRecDepth 100000

theorem words_each (m : List UInt8) : ∀ p, ∀ t ∈ TM.words p m, t.length ≤ p.length + m.length := by
  induction m with
  | nil => intro p t ht; by_cases h : p = [] <;> simp [TM.words, h] at ht; subst ht; simp
  | cons c u ih =>
    intro p t ht
    by_cases hc : c.toNat = 32
    · by_cases h : p = []
      · simp [TM.words, hc, h] at ht
        have := ih [] t ht
        simp at this ⊢; omega
      · simp [TM.words, hc, h] at ht
        rcases ht with rfl | ht
        · simp
        · have := ih [] t ht
          simp at this ⊢; omega
    · simp [TM.words, hc] at ht
      have := ih (p ++ [c]) t ht
      simp at this ⊢; omega
theorem left_take (r : RL) (ws : List (List UInt8)) (k : Nat) (h : k < ws.length) : leftB r (ws.take (k + 1)) = leftB r (ws.take k) ++ left1 r ws[k] := by
  unfold leftB
  rw [List.take_succ_eq_append_getElem h, List.flatMap_append]; simp
theorem left1_le (r : RL) (t : List UInt8) : (left1 r t).length ≤ 1 := by unfold left1; split <;> simp
theorem left_le (r : RL) (ws : List (List UInt8)) : (leftB r ws).length ≤ ws.length := by
  unfold leftB
  induction ws with
  | nil => simp
  | cons a t ih =>
    have := left1_le r a
    simp only [List.flatMap_cons, List.length_append, List.length_cons]; omega
theorem left1_none (r : RL) (t : List UInt8) (L : ByteArray) (h : lettersOf t = L) (he : L.toList.isEmpty = true) : left1 r t = [] := by
  unfold left1; rw [h, he]; rfl
theorem left1_drop (r : RL) (t : List UInt8) (L : ByteArray) (h : lettersOf t = L) (hd : hasB r.titles L = true) : left1 r t = [] := by
  unfold left1; rw [h, hd]; simp
theorem left1_some (r : RL) (t : List UInt8) (L : ByteArray) (h : lettersOf t = L) (he : L.toList.isEmpty = false) (hd : hasB r.titles L = false) : left1 r t = [canonB r.nicks L] := by
  unfold left1; rw [h, he, hd]; rfl
theorem canon_cases (ps : List (ByteArray × ByteArray)) (x : ByteArray) : canonB ps x = x ∨ ∃ p ∈ ps, canonB ps x = p.2 := by
  unfold canonB
  cases h : ps.find? (fun p => p.1.toList == x.toList) with
  | none => exact .inl rfl
  | some p => exact .inr ⟨p, List.mem_of_find?_eq_some h, rfl⟩
theorem tok_size {s : ByteArray} (h : tokB s = true) : s.size ≤ 64 := by
  unfold tokB at h
  simp only [Bool.and_eq_true, decide_eq_true_eq] at h
  exact h.2.1
theorem right_to {r : RL} (h : rightB r = true) : ∀ p ∈ r.nicks, tokB p.1 = true ∧ tokB p.2 = true ∧ hasB (froms r.nicks) p.2 = false ∧ hasB r.titles p.2 = false := by
  unfold rightB arePairsB makesB at h
  simp only [Bool.and_eq_true, Bool.not_eq_true', List.all_eq_true, areTok_split, List.any_eq_false] at h
  obtain ⟨_, ⟨⟨h1, _⟩, h2⟩, _, h3⟩ := h
  intro p hp
  have := h2 p hp
  unfold toAt at this
  simp only [Bool.and_eq_true, Bool.not_eq_true'] at this
  exact ⟨h1 _ (List.mem_map.2 ⟨p, hp, rfl⟩), this.1, this.2, by simpa using h3 p hp⟩
theorem check_zero {r : RL} (h : checkV r = 0) : rightB r = true := by
  unfold checkV at h
  split at h
  · cases h
  · split at h
    · assumption
    · cases h
theorem letters_size (t : List UInt8) : (lettersOf t).size ≤ t.length := by
  unfold lettersOf
  rw [show (bs (t.filter TM.lower)).size = (t.filter TM.lower).length from size_of_list _]
  exact List.length_filter_le _ _
theorem left_size {r : RL} (hr : rightB r = true) (ws : List (List UInt8)) (hw : ∀ t ∈ ws, t.length ≤ 64) : ∀ x ∈ leftB r ws, x.size ≤ 64 := by
  intro x hx
  unfold leftB at hx
  obtain ⟨t, ht, hx⟩ := List.mem_flatMap.1 hx
  have hl := Nat.le_trans (letters_size t) (hw t ht)
  unfold left1 at hx
  split at hx
  · obtain rfl : x = canonB r.nicks (lettersOf t) := by simpa using hx
    rcases canon_cases r.nicks (lettersOf t) with e | ⟨p, hp, e⟩
    · rw [e]; exact hl
    · rw [e]; exact tok_size (right_to hr p hp).2.1
  · simp at hx

end Go.Proofs.YthplnfblpdojkaaDoor
