/- The walk of NameExtras. -/
import Derived.Test.YthplnfblpdojkaaDoorNameLaws2
namespace Go.Proofs.YthplnfblpdojkaaDoor
open Go.RowKit
set_option linter.unusedVariables false
set_option maxRecDepth 100000

theorem words_append (a y : List UInt8) : ∀ p, TM.words p (a ++ 32 :: y) = TM.words p a ++ TM.words [] y := by
  have h32 : (32 : UInt8).toNat = 32 := rfl
  induction a with
  | nil => intro p; by_cases hp : p = [] <;> simp [TM.words, h32, hp]
  | cons c t ih =>
    intro p
    by_cases hc : c.toNat = 32
    · by_cases hp : p = []
      · simp [TM.words, hc, hp, ih]
      · simp [TM.words, hc, hp, ih]
    · simp [TM.words, hc, ih]
def sufX : List ByteArray := [⟨#[32, 49, 50]⟩, ⟨#[32, 55, 32, 56]⟩, ⟨#[]⟩]
/-- Tokens of digits. -/
def Digits (D : List (List UInt8)) : Prop := D = [] ∨ D = [[49, 50]] ∨ D = [[55], [56]]
theorem left_digits (r : RL) {D : List (List UInt8)} (h : Digits D) : leftB r D = [] := by
  have h1 : ∀ t : List UInt8, t = [49, 50] ∨ t = [55] ∨ t = [56] → left1 r t = [] := fun t ht => left1_none r t (lettersOf t) rfl (by
    rw [Lib.toList_data]
    rcases ht with rfl | rfl | rfl <;> decide +kernel)
  rcases h with rfl | rfl | rfl
  · rfl
  · simp [leftB, h1]
  · simp [leftB, h1]
theorem left_append (r : RL) (a b : List (List UInt8)) : leftB r (a ++ b) = leftB r a ++ leftB r b := by unfold leftB; simp
theorem dealt_titles {r : RL} (h : Dealt r) : (∀ t ∈ r.titles, lowB t = true) ∧ r.titles.length ≤ 2 := by
  obtain ⟨t, n, s⟩ := r
  obtain ⟨h1, -, -⟩ := h
  dsimp only at h1
  rcases h1 with rfl | rfl
  · exact ⟨fun t ht => by simp at ht, by simp⟩
  · exact ⟨by show ∀ t ∈ titlesL, lowB t = true; decide, by show titlesL.length ≤ 2; decide⟩
theorem left_titles {r : RL} (h : Dealt r) (us : List ByteArray) (hu : ∀ u ∈ us, u ∈ r.titles) : leftB r (us.map (·.data.toList)) = [] := by
  rw [left_low r us (fun u h' => (dealt_titles h).1 u (hu u h'))]
  unfold keepB
  rw [List.flatMap_eq_nil_iff]
  intro u h'
  exact keep1_drop ((hasB_iff _ _).2 (hu u h'))
/-- A rich text: titles, tokens, digits, in whatever dress. -/
def Rich (r : RL) (ts : List ByteArray) (l : List UInt8) : Prop := l.all TM.plain = true ∧ ∃ (us : List ByteArray) (D : List (List UInt8)), (∀ u ∈ us, u ∈ r.titles) ∧ Digits D ∧ TM.words [] (TM.spell l) = us.map (·.data.toList) ++ (ts.map (·.data.toList) ++ D)
theorem Rich.title {r : RL} {ts : List ByteArray} {l : List UInt8} (hd : Dealt r) (h : Rich r ts l) {t : ByteArray} (ht : t ∈ r.titles) : Rich r ts (t.data.toList ++ [46, 32] ++ l) := by
  obtain ⟨hp, us, D, hu, hD, hw⟩ := h
  have hl := (lowB_lows ((dealt_titles hd).1 t ht)).1
  refine ⟨?_, t :: us, D, fun u h' => ?_, hD, ?_⟩
  · rw [List.all_append, List.all_append, TM.plain_lows hl, hp]; rfl
  · rcases List.mem_cons.1 h' with rfl | h'
    · exact ht
    · exact hu u h'
  · rw [List.append_assoc, TM.spell_lows hl.2]
    show TM.words [] (t.data.toList ++ TM.spell (46 :: 32 :: l)) = _
    rw [TM.spell_sep _ _ (by decide), TM.spell_sep _ _ (by decide), words_cons hl.word_, TM.words_start, hw]
    rfl
theorem soft_join (ts : List ByteArray) (h : ∀ t ∈ ts, lowB t = true) : (joinB ts).data.toList.all TM.soft = true := by
  unfold joinB
  rw [list_bs]
  refine TM.join_all (by decide) _ (fun l hl => ?_)
  obtain ⟨t, ht, rfl⟩ := List.mem_map.1 hl
  exact TM.soft_of _ (lowB_lows (h t ht)).1.2
theorem Rich.start {r : RL} {ts : List ByteArray} (hl : ∀ t ∈ ts, lowB t = true) {d p : ByteArray} (hd : Dressed (joinB ts).data.toList d.data.toList) (hp : p ∈ sufX) : Rich r ts (d ++ p).data.toList := by
  obtain ⟨pre, body, post, hr, hpre, hpost, hb⟩ := hd
  have hs := soft_join ts hl
  rw [data_add, hr]
  have hpd : p.data.toList = [32, 49, 50] ∨ p.data.toList = [32, 55, 32, 56] ∨ p.data.toList = [] := by
    unfold sufX at hp
    simp only [List.mem_cons, List.not_mem_nil, or_false] at hp
    rcases hp with rfl | rfl | rfl
    · exact .inl rfl
    · exact .inr (.inl rfl)
    · exact .inr (.inr rfl)
  refine ⟨?_, ?_⟩
  · rw [List.all_append, List.all_append, List.all_append, TM.plain_drs _ _ hb hs]
    rcases hpre with rfl | rfl | rfl <;> rcases hpost with rfl | rfl | rfl <;> rcases hpd with e | e | e <;> rw [e] <;> decide
  · have h0 : TM.words [] (TM.spell (pre ++ body ++ post ++ p.data.toList)) = TM.words [] (TM.spell (body ++ (post ++ p.data.toList))) := by
      rcases hpre with rfl | rfl | rfl
      · simp
      · show TM.words [] (TM.spell (32 :: (body ++ post ++ p.data.toList))) = _
        rw [TM.spell_sep _ _ (by decide), TM.words_start, List.append_assoc]
      · show TM.words [] (TM.spell (45 :: (body ++ post ++ p.data.toList))) = _
        rw [TM.spell_sep _ _ (by decide), TM.words_start, List.append_assoc]
    rw [h0, TM.words_drs _ _ _ _ hb hs]
    have hw := join_words ts hl
    have key : ∀ y : List UInt8, ∀ D, TM.words [] y = D → Digits D → ∃ (us : List ByteArray) (D : List (List UInt8)), (∀ u ∈ us, u ∈ r.titles) ∧ Digits D ∧ TM.words [] ((joinB ts).data.toList ++ 32 :: y) = us.map (·.data.toList) ++ (ts.map (·.data.toList) ++ D) := fun y D hy hD =>
      ⟨[], D, by simp, hD, by rw [words_append, hw, hy]; simp⟩
    rcases hpost with rfl | rfl | rfl <;> rcases hpd with e | e | e <;> rw [e]
    · exact key [49, 50] [[49, 50]] (by decide +kernel) (.inr (.inl rfl))
    · exact key [55, 32, 56] [[55], [56]] (by decide +kernel) (.inr (.inr rfl))
    · exact ⟨[], [], by simp, .inl rfl, by rw [show TM.spell ([] ++ []) = [] from by decide +kernel, List.append_nil, hw]; simp⟩
    · exact key [32, 49, 50] [[49, 50]] (by decide +kernel) (.inr (.inl rfl))
    · exact key [32, 55, 32, 56] [[55], [56]] (by decide +kernel) (.inr (.inr rfl))
    · exact key [] [] (by decide +kernel) (.inl rfl)
    · exact key [32, 49, 50] [[49, 50]] (by decide +kernel) (.inr (.inl rfl))
    · exact key [32, 55, 32, 56] [[55], [56]] (by decide +kernel) (.inr (.inr rfl))
    · exact key [] [] (by decide +kernel) (.inl rfl)
theorem rich_norm {r : RL} (h : Dealt r) {ts : List ByteArray} (hl : ∀ t ∈ ts, lowB t = true) (hlen : ts.length ≤ 6) {s : ByteArray} (hr : Rich r ts s.data.toList) (hs : s.size ≤ 64) : normVal r s = (joinB (keepB r ts), 0) := by
  obtain ⟨hp, us, D, hu, hD, hw⟩ := hr
  have hv : validB s = true := by
    have h2 : s.data.toList.length = s.size := by simp
    unfold validB TM.valid
    rw [TM.ok_all _ hp, h2]
    simp [hs]
  have ht : normToks r s = keepB r ts := by
    unfold normToks
    rw [TM.words_fold, hw, left_append, left_append, left_titles h us hu, left_digits r hD, left_low r ts hl]
    simp
  have hx : normTxt r s = joinB (keepB r ts) := by unfold normTxt joinB; rw [ht]
  have h1 := keep_le r ts
  have h2 := join_low (keepB r ts) (keep_low h ts hl) (by omega)
  rw [norm_fine s (dealt_check h) hv (by rw [ht, hx]; omega), hx]

end Go.Proofs.YthplnfblpdojkaaDoor
