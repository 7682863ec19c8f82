/- The walk of NameIdempotent. -/
import Derived.Test.YthplnfblpdojkaaGreatDoorDeckBent
import Derived.Deep.RegionHeld3
namespace Go.Proofs.YthplnfblpdojkaaGreatDoor
open Go.RowKit
set_option linter.unusedVariables false
set_option maxRecDepth 100000

theorem drew_grown {w w' : World} {x : Option Nat} (h : w.drew.grownBy w' x) : w.grownBy w' x := ⟨h.os, h.tape, h.output, h.size, h.block⟩
theorem norm_cases (r : RL) (s : ByteArray) : (∃ c, c ≠ 0 ∧ normVal r s = (noB, c)) ∨
    (normVal r s = (normTxt r s, 0) ∧ checkV r = 0 ∧ rightB r = true ∧ validB s = true ∧ (normToks r s).length ≤ 6 ∧ (normTxt r s).size ≤ 64) := by
  by_cases h0 : checkV r = 0
  · by_cases hv : validB s = true
    · by_cases hl : 6 < (normToks r s).length ∨ 64 < (normTxt r s).size
      · exact .inl ⟨1, by decide, norm_limit s h0 hv hl⟩
      · exact .inr ⟨norm_fine s h0 hv hl, h0, check_zero h0, hv, by omega, by omega⟩
    · exact .inl ⟨3, by decide, norm_text s h0 (by simpa using hv)⟩
  · exact .inl ⟨_, h0, norm_check s rfl h0⟩
theorem left1_lows (r : RL) {t : ByteArray} (h : TM.lows t.data.toList) : left1 r t.data.toList = keep1 r t := by
  have hl : lettersOf t.data.toList = t := by
    apply ba_ext
    unfold lettersOf
    rw [list_bs]
    exact List.filter_eq_self.2 (List.all_eq_true.1 h.2)
  have hne : t.toList.isEmpty = false := by
    rw [Lib.toList_data]
    simpa using h.1
  unfold keep1
  cases hd : hasB r.titles t
  · exact left1_some r _ t hl hne hd
  · exact left1_drop r _ t hl hd
theorem tok_lows {s : ByteArray} (h : tokB s = true) : TM.lows s.data.toList := by
  unfold tokB at h
  simp only [Bool.and_eq_true, Bool.not_eq_true', Lib.toList_data] at h
  exact ⟨by simpa using h.1, h.2.2⟩
/-- A token of a normal form stays as it is. -/
theorem left_stays {r : RL} (hr : rightB r = true) (ws : List (List UInt8)) : ∀ y ∈ leftB r ws, TM.lows y.data.toList ∧ keep1 r y = [y] := by
  intro y hy
  unfold leftB at hy
  obtain ⟨t, ht, hy⟩ := List.mem_flatMap.1 hy
  unfold left1 at hy
  split at hy
  case isFalse => simp at hy
  case isTrue hc =>
    simp only [Bool.and_eq_true, Bool.not_eq_true', Lib.toList_data] at hc
    have hlows : TM.lows (lettersOf t).data.toList := by
      refine ⟨by simpa using hc.1, ?_⟩
      unfold lettersOf
      rw [list_bs, List.all_eq_true]
      intro c hc
      exact (List.mem_filter.1 hc).2
    obtain rfl : y = canonB r.nicks (lettersOf t) := by simpa using hy
    unfold canonB
    cases hf : r.nicks.find? (fun p => p.1.toList == (lettersOf t).toList) with
    | none =>
      refine ⟨hlows, ?_⟩
      show keep1 r (lettersOf t) = [lettersOf t]
      rw [keep1_stay hc.2]
      unfold canonB
      rw [hf]
    | some p =>
      have hp := List.mem_of_find?_eq_some hf
      obtain ⟨-, h2, h3, h4⟩ := right_to hr p hp
      refine ⟨tok_lows h2, ?_⟩
      show keep1 r p.2 = [p.2]
      rw [keep1_stay h4]
      have : canonB r.nicks p.2 = p.2 := by
        unfold canonB
        have : r.nicks.find? (fun q => q.1.toList == p.2.toList) = none := by
          rw [List.find?_eq_none]
          intro q hq hqe
          have : hasB (froms r.nicks) p.2 = true := by
            rw [hasB_iff]
            rw [eqS_iff] at hqe
            exact hqe ▸ List.mem_map.2 ⟨q, hq, rfl⟩
          rw [this] at h3; cases h3
        rw [this]
      rw [this]
theorem norm_again {r : RL} {s : ByteArray} (h : normVal r s = (normTxt r s, 0)) (hr : rightB r = true) (hlen : (normToks r s).length ≤ 6) (hz : (normTxt r s).size ≤ 64) (hc : checkV r = 0) :
    normVal r (normTxt r s) = (normTxt r s, 0) ∧ TM.words [] (normTxt r s).data.toList = (normToks r s).map (·.data.toList) := by
  have hst := left_stays hr (TM.words [] (TM.fold s.data.toList))
  have hw : TM.words [] (normTxt r s).data.toList = (normToks r s).map (·.data.toList) := by
    unfold normTxt
    rw [list_bs]
    refine TM.words_join _ (fun l hl => ?_)
    obtain ⟨t, ht, rfl⟩ := List.mem_map.1 hl
    exact (hst t ht).1.word_
  have hf : (normTxt r s).data.toList.all TM.fine = true := by
    unfold normTxt
    rw [list_bs]
    refine TM.join_all (by decide) _ (fun l hl => ?_)
    obtain ⟨t, ht, rfl⟩ := List.mem_map.1 hl
    have := (hst t ht).1.2
    rw [List.all_eq_true] at this ⊢
    intro c hc
    simp [TM.fine, this c hc]
  have ht : normToks r (normTxt r s) = normToks r s := by
    show leftB r (TM.words [] (TM.fold (normTxt r s).data.toList)) = _
    rw [TM.words_fold, TM.spell_fine _ hf, hw]
    show leftB r ((leftB r (TM.words [] (TM.fold s.data.toList))).map (·.data.toList)) = leftB r (TM.words [] (TM.fold s.data.toList))
    generalize leftB r (TM.words [] (TM.fold s.data.toList)) = T at hst
    show (T.map (·.data.toList)).flatMap (left1 r) = T
    induction T with
    | nil => rfl
    | cons a t ih =>
      rw [List.map_cons, List.flatMap_cons, left1_lows r (hst a (by simp)).1, (hst a (by simp)).2, ih (fun y hy => hst y (by simp [hy]))]
      rfl
  have hx : normTxt r (normTxt r s) = normTxt r s := by
    show bs (TM.join ((normToks r (normTxt r s)).map (·.data.toList))) = _
    rw [ht]; rfl
  exact ⟨by rw [norm_fine _ hc (valid_fine hf hz) (by rw [ht, hx]; omega), hx], hw⟩

end Go.Proofs.YthplnfblpdojkaaGreatDoor
