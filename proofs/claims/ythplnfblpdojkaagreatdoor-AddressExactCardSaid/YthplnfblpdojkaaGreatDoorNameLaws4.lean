/- The walk of NameChecks. -/
import Derived.Test.YthplnfblpdojkaaGreatDoorNameLaws3
import Derived.BigRegion
import Derived.Deep.Cut
namespace Go.Proofs.YthplnfblpdojkaaGreatDoor
open Go.RowKit
set_option linter.unusedVariables false
set_option maxRecDepth 100000

theorem low_tok {t : ByteArray} (h : lowB t = true) : tokB t = true := by
  have hl := lowB_lows h
  unfold tokB
  rw [hl.1.2, decide_eq_true (by omega), Lib.toList_data]
  have := hl.1.1
  simpa using this
theorem low_tokx {t : ByteArray} (h : lowB t = true) : tokB (t ++ ⟨#[120]⟩) = true := by
  have hl := lowB_lows h
  unfold tokB
  rw [data_add, List.all_append, hl.1.2, decide_eq_true (by rw [size_add]; show _ + 1 ≤ _; omega), Lib.toList_data, data_add]
  have := hl.1.1
  simp
  decide
theorem less_irr (a : List UInt8) : Op.bytesLess a a = false := by
  have := bytes_total a a
  simp at this
  exact this
theorem froms_one (a b : ByteArray) : froms [(a, b)] = [a] := rfl
theorem areTok_one {a : ByteArray} (h : tokB a = true) : areTokB [a] = true := by
  rw [areTok_split]
  simp only [List.all_cons, List.all_nil, h, Bool.and_true, Bool.true_and]
  exact asc_yes _ (fun j hj => by
    have : j = 0 := by simpa using hj
    subst this; rfl)
theorem areTok_nil : areTokB [] = true := by rfl
theorem arePairs_nil : arePairsB [] = true := by rfl
theorem arePairs_one {a b : ByteArray} (ha : tokB a = true) (hb : tokB b = true) (hn : (a.toList == b.toList) = false) : arePairsB [(a, b)] = true := by
  unfold arePairsB
  rw [froms_one, areTok_one ha]
  simp only [List.all_cons, List.all_nil, Bool.and_true, Bool.true_and, toAt, froms_one, hb, hasB, List.any_cons, List.any_nil, hn]
  rfl
theorem checks_chain {a b : ByteArray} {ps : List (ByteArray × ByteArray)} (h : ps = [(a, b), (b, a)] ∨ ps = [(b, a), (a, b)]) : checkV ⟨[], ps, []⟩ = 5 := by
  have hp : arePairsB ps = false := by
    rcases h with rfl | rfl
    · refine arePairs_not _ 0 (by simp) ?_
      show (tokB b && !hasB [a, b] b) = false
      rw [(hasB_iff _ _).2 (by simp)]; simp
    · refine arePairs_not _ 0 (by simp) ?_
      show (tokB a && !hasB [b, a] a) = false
      rw [(hasB_iff _ _).2 (by simp)]; simp
  refine check_bad _ ?_ ?_
  · rcases h with rfl | rfl <;> rfl
  · unfold rightB
    rw [hp]; simp
theorem checks_title {a b : ByteArray} : checkV ⟨[b], [(a, b)], []⟩ = 5 := by
  refine check_bad _ rfl ?_
  unfold rightB
  have : makesB ⟨[b], [(a, b)], []⟩ = true := by
    show ([(a, b)].any fun p => hasB [b] p.2) = true
    simp only [List.any_cons, List.any_nil, Bool.or_false]
    exact (hasB_iff _ _).2 (by simp)
  rw [this]; simp
theorem checks_twice {a b : ByteArray} : checkV ⟨[], [], [(a, b), (a, b)]⟩ = 5 := by
  refine check_bad _ rfl ?_
  unfold rightB
  have : arePairsB [(a, b), (a, b)] = false := by
    unfold arePairsB
    have : areTokB (froms [(a, b), (a, b)]) = false := by
      refine areTok_not _ 1 (by simp [froms]) ?_
      rw [orderAt_is _ 1 (by omega) (by simp [froms])]
      show (_ && !geS a a) = false
      unfold geS
      rw [less_irr]; simp
    rw [this]; rfl
  rw [this]; simp
theorem checks_fine {a b : ByteArray} (ha : tokB a = true) (hb : tokB b = true) (hn : (a.toList == b.toList) = false) : checkV ⟨[a], [(a, b)], [(a, b)]⟩ = 0 := by
  refine check_ok _ rfl ?_
  unfold rightB
  have : makesB ⟨[a], [(a, b)], [(a, b)]⟩ = false := by
    show ([(a, b)].any fun p => hasB [a] p.2) = false
    simp only [List.any_cons, List.any_nil, Bool.or_false, hasB, hn]
  rw [this]
  show (areTokB [a] && (arePairsB [(a, b)] && (arePairsB [(a, b)] && !false))) = true
  rw [areTok_one ha, arePairs_one ha hb hn]; rfl

theorem below_drew {B : Nat} {a w : World} (h : Below B a w) : Below B a w.drew := ⟨h.os, h.tape, h.output, h.size, h.block⟩
theorem pairs_nil (B : Nat) (w : World) : IsPairs B w (.slice none 0 0) [] := ⟨none, 0, rfl, Nat.le_refl _, Nat.zero_le _, .inl rfl⟩
theorem texts_nil (B : Nat) (w : World) : IsTexts B w (.slice none 0 0) [] := ⟨none, 0, rfl, Nat.le_refl _, Nat.zero_le _, .inl rfl⟩
/-- Rules of two nicknames, written out; of a title and a nickname; of two streets; of one of each. -/
theorem lit_nicks (V : World) (a b c d : ByteArray) : Below V.heap.size V ((V.alloc (.cells #[.string a, .string b, .string c, .string d] 46)).alloc (.cells #[.slice none 0 0, .slice (some ⟨V.heap.size, 0, none⟩) 2 2, .slice none 0 0] 26)) ∧
    Box ((V.alloc (.cells #[.string a, .string b, .string c, .string d] 46)).alloc (.cells #[.slice none 0 0, .slice (some ⟨V.heap.size, 0, none⟩) 2 2, .slice none 0 0] 26)) (V.heap.size + 1) (.slice none 0 0) (.slice (some ⟨V.heap.size, 0, none⟩) 2 2) (.slice none 0 0) ∧
    IsRules (V.heap.size + 2) ((V.alloc (.cells #[.string a, .string b, .string c, .string d] 46)).alloc (.cells #[.slice none 0 0, .slice (some ⟨V.heap.size, 0, none⟩) 2 2, .slice none 0 0] 26)) (.agg #[.slice none 0 0, .slice (some ⟨V.heap.size, 0, none⟩) 2 2, .slice none 0 0]) ⟨[], [(a, b), (c, d)], []⟩ ∧
    ((V.alloc (.cells #[.string a, .string b, .string c, .string d] 46)).alloc (.cells #[.slice none 0 0, .slice (some ⟨V.heap.size, 0, none⟩) 2 2, .slice none 0 0] 26)).heap.size = V.heap.size + 2 := by
  refine ⟨((Below.refl _ _).alloc (Nat.le_refl _) _).alloc (by simp) _, ?_, ⟨_, _, _, rfl, texts_nil _ _, ?_, pairs_nil _ _⟩, by simp⟩
  · have := Box.new (V.alloc (.cells #[.string a, .string b, .string c, .string d] 46)) (.slice none 0 0) (.slice (some ⟨V.heap.size, 0, none⟩) 2 2) (.slice none 0 0)
    simpa using this
  · exact ((pairs_lit V [(a, b), (c, d)] (by simp [maxLen])).keep ((Below.refl _ _).alloc (by simp) _)).more (by omega)
theorem lit_streets (V : World) (a b c d : ByteArray) : Below V.heap.size V ((V.alloc (.cells #[.string a, .string b, .string c, .string d] 46)).alloc (.cells #[.slice none 0 0, .slice none 0 0, .slice (some ⟨V.heap.size, 0, none⟩) 2 2] 26)) ∧
    Box ((V.alloc (.cells #[.string a, .string b, .string c, .string d] 46)).alloc (.cells #[.slice none 0 0, .slice none 0 0, .slice (some ⟨V.heap.size, 0, none⟩) 2 2] 26)) (V.heap.size + 1) (.slice none 0 0) (.slice none 0 0) (.slice (some ⟨V.heap.size, 0, none⟩) 2 2) ∧
    IsRules (V.heap.size + 2) ((V.alloc (.cells #[.string a, .string b, .string c, .string d] 46)).alloc (.cells #[.slice none 0 0, .slice none 0 0, .slice (some ⟨V.heap.size, 0, none⟩) 2 2] 26)) (.agg #[.slice none 0 0, .slice none 0 0, .slice (some ⟨V.heap.size, 0, none⟩) 2 2]) ⟨[], [], [(a, b), (c, d)]⟩ ∧
    ((V.alloc (.cells #[.string a, .string b, .string c, .string d] 46)).alloc (.cells #[.slice none 0 0, .slice none 0 0, .slice (some ⟨V.heap.size, 0, none⟩) 2 2] 26)).heap.size = V.heap.size + 2 := by
  refine ⟨((Below.refl _ _).alloc (Nat.le_refl _) _).alloc (by simp) _, ?_, ⟨_, _, _, rfl, texts_nil _ _, pairs_nil _ _, ?_⟩, by simp⟩
  · have := Box.new (V.alloc (.cells #[.string a, .string b, .string c, .string d] 46)) (.slice none 0 0) (.slice none 0 0) (.slice (some ⟨V.heap.size, 0, none⟩) 2 2)
    simpa using this
  · exact ((pairs_lit V [(a, b), (c, d)] (by simp [maxLen])).keep ((Below.refl _ _).alloc (by simp) _)).more (by omega)
theorem lit_title (V : World) (t a b : ByteArray) : Below V.heap.size V (((V.alloc (.cells #[.string t] 9)).alloc (.cells #[.string a, .string b] 46)).alloc (.cells #[.slice (some ⟨V.heap.size, 0, none⟩) 1 1, .slice (some ⟨V.heap.size + 1, 0, none⟩) 1 1, .slice none 0 0] 26)) ∧
    Box (((V.alloc (.cells #[.string t] 9)).alloc (.cells #[.string a, .string b] 46)).alloc (.cells #[.slice (some ⟨V.heap.size, 0, none⟩) 1 1, .slice (some ⟨V.heap.size + 1, 0, none⟩) 1 1, .slice none 0 0] 26)) (V.heap.size + 1 + 1) (.slice (some ⟨V.heap.size, 0, none⟩) 1 1) (.slice (some ⟨V.heap.size + 1, 0, none⟩) 1 1) (.slice none 0 0) ∧
    IsRules (V.heap.size + 3) (((V.alloc (.cells #[.string t] 9)).alloc (.cells #[.string a, .string b] 46)).alloc (.cells #[.slice (some ⟨V.heap.size, 0, none⟩) 1 1, .slice (some ⟨V.heap.size + 1, 0, none⟩) 1 1, .slice none 0 0] 26)) (.agg #[.slice (some ⟨V.heap.size, 0, none⟩) 1 1, .slice (some ⟨V.heap.size + 1, 0, none⟩) 1 1, .slice none 0 0]) ⟨[t], [(a, b)], []⟩ ∧
    (((V.alloc (.cells #[.string t] 9)).alloc (.cells #[.string a, .string b] 46)).alloc (.cells #[.slice (some ⟨V.heap.size, 0, none⟩) 1 1, .slice (some ⟨V.heap.size + 1, 0, none⟩) 1 1, .slice none 0 0] 26)).heap.size = V.heap.size + 3 := by
  refine ⟨(((Below.refl _ _).alloc (Nat.le_refl _) _).alloc (by simp) _).alloc (by simp; omega) _, ?_, ⟨_, _, _, rfl, ?_, ?_, pairs_nil _ _⟩, by simp⟩
  · have := Box.new ((V.alloc (.cells #[.string t] 9)).alloc (.cells #[.string a, .string b] 46)) (.slice (some ⟨V.heap.size, 0, none⟩) 1 1) (.slice (some ⟨V.heap.size + 1, 0, none⟩) 1 1) (.slice none 0 0)
    simpa using this
  · exact ((texts_lit V [t] (by simp [maxLen])).keep (((Below.refl _ _).alloc (by simp) _).alloc (by simp) _)).more (by omega)
  · have := (pairs_lit (V.alloc (.cells #[.string t] 9)) [(a, b)] (by simp [maxLen])).keep ((Below.refl _ _).alloc (by simp) (.cells #[.slice (some ⟨V.heap.size, 0, none⟩) 1 1, .slice (some ⟨V.heap.size + 1, 0, none⟩) 1 1, .slice none 0 0] 26))
    simp only [World.size_alloc] at this
    exact this.more (by omega)
theorem lit_fine (V : World) (t a b c d : ByteArray) : Below V.heap.size V ((((V.alloc (.cells #[.string t] 9)).alloc (.cells #[.string a, .string b] 46)).alloc (.cells #[.string c, .string d] 46)).alloc (.cells #[.slice (some ⟨V.heap.size, 0, none⟩) 1 1, .slice (some ⟨V.heap.size + 1, 0, none⟩) 1 1, .slice (some ⟨V.heap.size + 1 + 1, 0, none⟩) 1 1] 26)) ∧
    Box ((((V.alloc (.cells #[.string t] 9)).alloc (.cells #[.string a, .string b] 46)).alloc (.cells #[.string c, .string d] 46)).alloc (.cells #[.slice (some ⟨V.heap.size, 0, none⟩) 1 1, .slice (some ⟨V.heap.size + 1, 0, none⟩) 1 1, .slice (some ⟨V.heap.size + 1 + 1, 0, none⟩) 1 1] 26)) (V.heap.size + 1 + 1 + 1) (.slice (some ⟨V.heap.size, 0, none⟩) 1 1) (.slice (some ⟨V.heap.size + 1, 0, none⟩) 1 1) (.slice (some ⟨V.heap.size + 1 + 1, 0, none⟩) 1 1) ∧
    IsRules (V.heap.size + 4) ((((V.alloc (.cells #[.string t] 9)).alloc (.cells #[.string a, .string b] 46)).alloc (.cells #[.string c, .string d] 46)).alloc (.cells #[.slice (some ⟨V.heap.size, 0, none⟩) 1 1, .slice (some ⟨V.heap.size + 1, 0, none⟩) 1 1, .slice (some ⟨V.heap.size + 1 + 1, 0, none⟩) 1 1] 26)) (.agg #[.slice (some ⟨V.heap.size, 0, none⟩) 1 1, .slice (some ⟨V.heap.size + 1, 0, none⟩) 1 1, .slice (some ⟨V.heap.size + 1 + 1, 0, none⟩) 1 1]) ⟨[t], [(a, b)], [(c, d)]⟩ ∧
    ((((V.alloc (.cells #[.string t] 9)).alloc (.cells #[.string a, .string b] 46)).alloc (.cells #[.string c, .string d] 46)).alloc (.cells #[.slice (some ⟨V.heap.size, 0, none⟩) 1 1, .slice (some ⟨V.heap.size + 1, 0, none⟩) 1 1, .slice (some ⟨V.heap.size + 1 + 1, 0, none⟩) 1 1] 26)).heap.size = V.heap.size + 4 := by
  refine ⟨((((Below.refl _ _).alloc (Nat.le_refl _) _).alloc (by simp) _).alloc (by simp; omega) _).alloc (by simp; omega) _, ?_, ⟨_, _, _, rfl, ?_, ?_, ?_⟩, by simp⟩
  · have := Box.new (((V.alloc (.cells #[.string t] 9)).alloc (.cells #[.string a, .string b] 46)).alloc (.cells #[.string c, .string d] 46)) (.slice (some ⟨V.heap.size, 0, none⟩) 1 1) (.slice (some ⟨V.heap.size + 1, 0, none⟩) 1 1) (.slice (some ⟨V.heap.size + 1 + 1, 0, none⟩) 1 1)
    simpa using this
  · exact ((texts_lit V [t] (by simp [maxLen])).keep ((((Below.refl _ _).alloc (by simp) _).alloc (by simp) _).alloc (by simp) _)).more (by omega)
  · have := (pairs_lit (V.alloc (.cells #[.string t] 9)) [(a, b)] (by simp [maxLen])).keep (((Below.refl _ _).alloc (by simp) (.cells #[.string c, .string d] 46)).alloc (by simp) (.cells #[.slice (some ⟨V.heap.size, 0, none⟩) 1 1, .slice (some ⟨V.heap.size + 1, 0, none⟩) 1 1, .slice (some ⟨V.heap.size + 1 + 1, 0, none⟩) 1 1] 26))
    simp only [World.size_alloc] at this
    exact this.more (by omega)
  · have := (pairs_lit ((V.alloc (.cells #[.string t] 9)).alloc (.cells #[.string a, .string b] 46)) [(c, d)] (by simp [maxLen])).keep ((Below.refl _ _).alloc (by simp) (.cells #[.slice (some ⟨V.heap.size, 0, none⟩) 1 1, .slice (some ⟨V.heap.size + 1, 0, none⟩) 1 1, .slice (some ⟨V.heap.size + 1 + 1, 0, none⟩) 1 1] 26))
    simp only [World.size_alloc] at this
    exact this.more (by omega)

end Go.Proofs.YthplnfblpdojkaaGreatDoor
