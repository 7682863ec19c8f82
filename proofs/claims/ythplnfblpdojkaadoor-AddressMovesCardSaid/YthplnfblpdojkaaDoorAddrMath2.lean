/- Layer 4's statements on lists: moved numbers, zeros in front, dressed codes. -/
import Derived.Test.YthplnfblpdojkaaDoorAddrMath
import Derived.Lib.ReplaceLaws
namespace Go.Proofs.YthplnfblpdojkaaDoor
open Go.RowKit
set_option linter.unusedVariables false
set_option maxRecDepth 100000

namespace TM
theorem words_flat (m : List UInt8) : ∀ p, (∀ c ∈ p, c.toNat ≠ 32) → (words p m).flatten = p ++ noSp m := by
  induction m with
  | nil => intro p hp; by_cases h : p = [] <;> simp [words, h, noSp]
  | cons c u ih =>
    intro p hp
    by_cases hc : c.toNat = 32
    · have e : noSp (c :: u) = noSp u := by rw [u8_ext (b := 32) hc]; rfl
      by_cases h : p = []
      · simp only [words, hc, h, if_true]
        rw [ih [] (by simp), e]
      · simp only [words, hc, h, if_true, if_false, List.flatten_cons]
        rw [ih [] (by simp), e]; rfl
    · have e : noSp (c :: u) = c :: noSp u := by
        have : (c == 32) = false := by rw [beq_eq_false_iff_ne]; rintro rfl; exact hc rfl
        unfold noSp
        rw [List.filter_cons, this]; rfl
      simp only [words, hc, if_false]
      rw [ih (p ++ [c]) (by
        intro x hx
        rcases List.mem_append.1 hx with hx | hx
        · exact hp x hx
        · simp at hx; subst hx; exact hc), e]
      simp
theorem noSp_word {t : List UInt8} (h : word t) : noSp t = t := List.filter_eq_self.2 fun c hc => by
  have := h.2 c hc
  have : (c == 32) = false := by rw [beq_eq_false_iff_ne]; rintro rfl; exact this rfl
  rw [this]; rfl
theorem noSp_join (ws : List (List UInt8)) (h : ∀ t ∈ ws, word t) : noSp (join ws) = ws.flatten := by
  induction ws with
  | nil => rfl
  | cons a t ih =>
    cases t with
    | nil => show noSp a = _; rw [noSp_word (h a (by simp))]; simp
    | cons b u =>
      have ih := ih (fun x hx => h x (by simp at hx ⊢; right; exact hx))
      show noSp (a ++ 32 :: join (b :: u)) = _
      have e : noSp (a ++ 32 :: join (b :: u)) = noSp a ++ noSp (join (b :: u)) := by unfold noSp; rw [List.filter_append, List.filter_cons]; rfl
      rw [e, ih, noSp_word (h a (by simp))]; rfl
theorem noSp_fold (l : List UInt8) : noSp (fold l) = noSp (spell l) := by
  unfold fold
  rw [noSp_join _ (words_word _ _ (by simp)), words_flat _ _ (by simp)]
  rfl
theorem spell_plain (a b : List UInt8) (h : a.all plain = true) : spell (a ++ b) = spell a ++ spell b := by
  induction a with
  | nil => rw [spell_nil]; rfl
  | cons c t ih =>
    simp only [List.all_cons, Bool.and_eq_true] at h
    have hc : 32 ≤ c.toNat ∧ c.toNat ≤ 126 := by simpa [plain] using h.1
    rw [List.cons_append, spell_one _ _ (by omega), spell_one _ _ (by omega), ih h.2]
    simp
theorem noSp_app (a b : List UInt8) : noSp (a ++ b) = noSp a ++ noSp b := by unfold noSp; rw [List.filter_append]
end TM

def fineW (x : ByteArray) : Prop := TM.word x.data.toList ∧ x.data.toList.all TM.fine = true
theorem joinOf_words (ws : List ByteArray) (h : ∀ x ∈ ws, fineW x) : wordsB (joinOf ws) = ws ∧ (joinOf ws).data.toList.all TM.fine = true ∧ foldB (joinOf ws) = joinOf ws := by
  have hw : TM.words [] (joinOf ws).data.toList = ws.map (·.data.toList) := by
    unfold joinOf
    rw [list_bs]
    refine TM.words_join _ (fun l hl => ?_)
    obtain ⟨t, ht, rfl⟩ := List.mem_map.1 hl
    exact (h t ht).1
  have hfi : (joinOf ws).data.toList.all TM.fine = true := by
    unfold joinOf
    rw [list_bs]
    refine TM.join_all (by decide) _ (fun l hl => ?_)
    obtain ⟨t, ht, rfl⟩ := List.mem_map.1 hl
    exact (h t ht).2
  refine ⟨(wordsB_of hw.symm).symm, hfi, ?_⟩
  unfold foldB TM.fold
  rw [TM.spell_fine _ hfi, hw]
  rfl
theorem adr_words {r : RL} (ws : List ByteArray) (h : ∀ x ∈ ws, fineW x) (hc : checkV r = 0) (hz : (joinOf ws).size ≤ 64) (hl : ws.length ≤ 6) (ht : (joinOf (adrToks r ws)).size ≤ 64) :
    adrVal r (joinOf ws) = (joinOf (adrToks r ws), 0) := by
  obtain ⟨h1, h2, h3⟩ := joinOf_words ws h
  have e : wordsB (foldB (joinOf ws)) = ws := by rw [h3, h1]
  have hx : adrTxt r (joinOf ws) = joinOf (adrToks r ws) := by unfold adrTxt; rw [e]
  rw [adr_fine _ hc (valid_fine h2 hz) (by rw [e, hx, toks_len]; omega), hx]
theorem sp_size : (⟨#[32]⟩ : ByteArray).size = 1 := rfl
theorem low_lowsW {s : ByteArray} (h : lowB s = true) : TM.lows s.data.toList ∧ s.size ≤ 8 := by
  have hz := low_size h
  unfold lowB at h
  simp only [Bool.and_eq_true, decide_eq_true_eq] at h
  exact ⟨⟨List.length_pos_iff.1 h.1.1, h.2⟩, hz⟩
theorem low_fineW {s : ByteArray} (h : lowB s = true) : fineW s ∧ numB s = false ∧ s.size ≤ 8 := by
  obtain ⟨h1, h2⟩ := low_lowsW h
  exact ⟨⟨h1.word_, lows_fine h1.2⟩, lows_num h1, h2⟩
def movL : List ByteArray := [⟨#[49, 50]⟩, ⟨#[51, 98]⟩, ⟨#[55]⟩, ⟨#[48]⟩]
def zerL : List ByteArray := [⟨#[49, 50]⟩, ⟨#[51, 98]⟩, ⟨#[55]⟩, ⟨#[49, 48]⟩, ⟨#[48]⟩]
theorem word_dec {x : ByteArray} (h : (!x.data.toList.isEmpty && x.data.toList.all fun c => TM.lower c || TM.digit c) = true) : fineW x := by
  simp only [Bool.and_eq_true, Bool.not_eq_true'] at h
  have h2 := List.all_eq_true.1 h.2
  refine ⟨⟨by simpa using h.1, fun c hc hcc => ?_⟩, ?_⟩
  · have := h2 c hc
    simp [TM.lower, TM.digit] at this
    omega
  · rw [List.all_eq_true]
    intro c hc
    have := h2 c hc
    simp only [TM.fine, this, Bool.true_or]
theorem mov_all : ∀ n ∈ movL, fineW n ∧ numB n = true ∧ trimB n = n ∧ n.size ≤ 2 := by
  intro n hn
  simp only [movL, List.mem_cons, List.not_mem_nil, or_false] at hn
  rcases hn with rfl | rfl | rfl | rfl <;> exact ⟨word_dec (by decide), by decide, by decide, by decide⟩
theorem zer_all : ∀ n ∈ zerL, fineW n ∧ numB n = true ∧ trimB n = n ∧ n.size ≤ 2 := by
  intro n hn
  simp only [zerL, List.mem_cons, List.not_mem_nil, or_false] at hn
  rcases hn with rfl | rfl | rfl | rfl | rfl <;> exact ⟨word_dec (by decide), by decide, by decide, by decide⟩
theorem joinOf_three (a b c : ByteArray) : joinOf [a, b, c] = a ++ ⟨#[32]⟩ ++ b ++ ⟨#[32]⟩ ++ c := by
  apply ba_ext
  unfold joinOf
  rw [list_bs]
  simp [TM.join]
theorem joinOf_two (a b : ByteArray) : joinOf [a, b] = a ++ ⟨#[32]⟩ ++ b := by
  apply ba_ext
  unfold joinOf
  rw [list_bs]
  simp [TM.join]
theorem dealt_streets {r : RL} (h : Dealt r) : ∀ p ∈ r.streets, lowB p.2 = true := by
  rcases h.2.2 with e | e <;> rw [e]
  · intro p hp; simp at hp
  · decide
theorem canon_street {r : RL} (h : Dealt r) {t : ByteArray} (ht : lowB t = true) : lowB (canonB r.streets t) = true := by
  rcases canon_cases r.streets t with e | ⟨p, hp, e⟩
  · rw [e]; exact ht
  · rw [e]; exact dealt_streets h p hp
/-- The place of a number does not matter. -/
theorem moves {r : RL} (h : Dealt r) {a b n : ByteArray} (ha : lowB a = true) (hb : lowB b = true) (hn : n ∈ movL) :
    (∀ ws, ws = [n, a, b] ∨ ws = [a, n, b] ∨ ws = [a, b, n] → adrVal r (joinOf ws) = (joinOf [canonB r.streets a, canonB r.streets b, n], 0) ∧ (joinOf ws).size ≤ 64) ∧
    (joinOf [canonB r.streets a, canonB r.streets b, n]).size ≤ 64 ∧
    numOf (joinOf [canonB r.streets a, canonB r.streets b, n]) = n ∧ streetOf (joinOf [canonB r.streets a, canonB r.streets b, n]) = joinOf [canonB r.streets a, canonB r.streets b] := by
  obtain ⟨a1, a2, a3⟩ := low_fineW ha
  obtain ⟨b1, b2, b3⟩ := low_fineW hb
  obtain ⟨c1, c2, c3⟩ := low_fineW (canon_street h ha)
  obtain ⟨d1, d2, d3⟩ := low_fineW (canon_street h hb)
  obtain ⟨n1, n2, n3, n4⟩ := mov_all n hn
  have hz : (joinOf [canonB r.streets a, canonB r.streets b, n]).size ≤ 64 := by rw [joinOf_three]; simp only [size_add, sp_size]; omega
  obtain ⟨w1, -, -⟩ := joinOf_words [canonB r.streets a, canonB r.streets b, n] (by intro x hx; simp at hx; rcases hx with rfl | rfl | rfl <;> assumption)
  refine ⟨fun ws hws => ?_, hz, ?_, ?_⟩
  · have hs : (joinOf ws).size ≤ 64 := by rcases hws with rfl | rfl | rfl <;> · rw [joinOf_three]; simp only [size_add, sp_size]; omega
    have ht : adrToks r ws = [canonB r.streets a, canonB r.streets b, n] := by
      unfold adrToks restOf numsOf
      rcases hws with rfl | rfl | rfl <;> simp [a2, b2, n2, n3]
    refine ⟨?_, hs⟩
    rw [← ht]
    refine adr_words ws ?_ (dealt_check h) hs (by rcases hws with rfl | rfl | rfl <;> simp) (by rw [ht]; exact hz)
    intro x hx
    rcases hws with rfl | rfl | rfl <;> (simp at hx; rcases hx with rfl | rfl | rfl <;> assumption)
  · unfold numOf numsOf
    rw [w1]
    simp [c2, d2, n2]
  · unfold streetOf restOf
    rw [w1]
    simp [c2, d2, n2]
def rNone : RL := ⟨[], [], []⟩
theorem none_check : checkV rNone = 0 := by
  simp only [rNone, checkV, longB, rightB, areTokB, arePairsB, makesB, tokAt, orderAt, tokB, hasB, geS, froms, Lib.toList_data]
  decide +kernel
/-- Zeros in front of a number do not matter. -/
theorem zeros_go {n s : ByteArray} {k : Nat} (hn : n ∈ zerL) (hs : s.data.toList = List.replicate k 48 ++ n.data.toList) (hk : k < 20) : fineW s ∧ numB s = true ∧ trimB s = n ∧ s.size ≤ 22 := by
  obtain ⟨⟨n1, n1'⟩, n2, n3, n4⟩ := zer_all n hn
  refine ⟨⟨⟨?_, ?_⟩, ?_⟩, ?_, ?_, ?_⟩
  · rw [hs]; intro h; exact n1.1 (List.append_eq_nil_iff.1 h).2
  · rw [hs]
    intro c hc
    rcases List.mem_append.1 hc with hc | hc
    · rw [(List.mem_replicate.1 hc).2]; decide
    · exact n1.2 c hc
  · rw [hs, List.all_append, n1', Bool.and_true, List.all_eq_true]
    intro c hc
    rw [(List.mem_replicate.1 hc).2]; decide
  · unfold numB
    rw [hs]
    cases k with
    | zero => exact n2
    | succ k => exact TM.digit48
  · apply ba_ext
    unfold trimB
    rw [list_bs, hs]
    have h : ∀ k, TM.trimN (List.replicate k 48 ++ n.data.toList) = TM.trimN n.data.toList := by
      intro k
      induction k with
      | zero => rfl
      | succ k ih => rw [List.replicate_succ, List.cons_append, TM.trimZ, ih]
    rw [h]
    have := congrArg (fun x : ByteArray => x.data.toList) n3
    unfold trimB at this
    rw [list_bs] at this
    exact this
  · have h1 := congrArg List.length hs
    rw [List.length_append, List.length_replicate, sizeL, sizeL] at h1
    omega
theorem zeros_val {t n s : ByteArray} {k : Nat} (ht : lowB t = true) (hn : n ∈ zerL) (hs : s.data.toList = List.replicate k 48 ++ n.data.toList) (hk : k < 20) :
    adrVal rNone (t ++ ⟨#[32]⟩ ++ s) = (t ++ ⟨#[32]⟩ ++ n, 0) ∧ numOf (t ++ ⟨#[32]⟩ ++ n) = n ∧ (t ++ ⟨#[32]⟩ ++ s).size ≤ 64 ∧ (t ++ ⟨#[32]⟩ ++ n).size ≤ 64 := by
  obtain ⟨t1, t2, t3⟩ := low_fineW ht
  obtain ⟨s1, s2, s3, s4⟩ := zeros_go hn hs hk
  obtain ⟨n1, n2, n3, n4⟩ := zer_all n hn
  have hz : (t ++ ⟨#[32]⟩ ++ s).size ≤ 64 := by simp only [size_add, sp_size]; omega
  have hy : (t ++ ⟨#[32]⟩ ++ n).size ≤ 64 := by simp only [size_add, sp_size]; omega
  have hc : canonB [] t = t := rfl
  have e : adrToks rNone [t, s] = [t, n] := by
    unfold adrToks restOf numsOf rNone
    simp [t2, s2, s3, hc]
  refine ⟨?_, ?_, hz, hy⟩
  · rw [← joinOf_two, ← joinOf_two, ← e]
    refine adr_words _ (by intro x hx; simp at hx; rcases hx with rfl | rfl <;> assumption) none_check (by rw [joinOf_two]; exact hz) (by simp) (by rw [e, joinOf_two]; exact hy)
  · rw [← joinOf_two]
    unfold numOf numsOf
    rw [(joinOf_words [t, n] (by intro x hx; simp at hx; rcases hx with rfl | rfl <;> assumption)).1]
    simp [t2, n2]
def chL : List ByteArray := [⟨#[97]⟩, ⟨#[98]⟩, ⟨#[122]⟩, ⟨#[48]⟩, ⟨#[55]⟩]
def sepL : List ByteArray := [⟨#[]⟩, ⟨#[]⟩, ⟨#[32]⟩, ⟨#[45]⟩]
def chs (c : UInt8) : Bool := c == 97 || (c == 98 || (c == 122 || (c == 48 || c == 55)))
/-- What is known of a dressed code up to the place i. -/
def DrC (c : List UInt8) (i : Nat) (D : ByteArray) : Prop := D.data.toList.all TM.plain = true ∧ TM.noSp (TM.spell D.data.toList) = c.take i ∧ D.size ≤ 2 * i
theorem DrC.zero (c : List UInt8) : DrC c 0 ⟨#[]⟩ := ⟨rfl, rfl, by decide⟩
theorem ch_spell (x : UInt8) (h : chs x = true) : TM.plain x = true ∧ TM.noSp (TM.spell [x]) = [x] := by
  unfold chs at h
  simp only [Bool.or_eq_true, beq_iff_eq] at h
  rcases h with rfl | rfl | rfl | rfl | rfl <;> exact ⟨by decide, by decide⟩
theorem sep_spell : ∀ s ∈ sepL, s.data.toList.all TM.plain = true ∧ TM.noSp (TM.spell s.data.toList) = [] ∧ s.size ≤ 1 := by decide
theorem DrC.step {c : List UInt8} {i : Nat} {D x s : ByteArray} (h : DrC c i D) (hi : i < c.length) (hc : c.all chs = true) (hx : x.data.toList = [c[i]] ∨ (c[i] = 97 ∧ x.data.toList = [65])) (hs : s ∈ sepL) : DrC c (i + 1) (D ++ (x ++ s)) := by
  obtain ⟨h1, h2, h3⟩ := h
  obtain ⟨s1, s2, s3⟩ := sep_spell s hs
  have hci := List.all_eq_true.1 hc c[i] (List.getElem_mem hi)
  have hx1 : x.data.toList.all TM.plain = true ∧ TM.noSp (TM.spell x.data.toList) = [c[i]] ∧ x.size = 1 := by
    have hsz := sizeL x
    rcases hx with e | ⟨e0, e⟩
    · obtain ⟨p1, p2⟩ := ch_spell _ hci
      rw [e] at hsz
      rw [e]; exact ⟨by simp [p1], p2, hsz.symm⟩
    · rw [e] at hsz
      rw [e, e0]; exact ⟨by decide, by decide, hsz.symm⟩
  obtain ⟨x1, x2, x3⟩ := hx1
  refine ⟨?_, ?_, ?_⟩
  · rw [data_add, data_add, List.all_append, List.all_append, h1, x1, s1]; rfl
  · rw [data_add, data_add, TM.spell_plain _ _ h1, TM.spell_plain _ _ x1, TM.noSp_app, TM.noSp_app, h2, x2, s2, List.append_nil, List.take_succ_eq_append_getElem hi]
  · rw [size_add, size_add]; omega
theorem DrC.val {c D : ByteArray} (h : DrC c.data.toList c.data.toList.length D) (hz : c.size ≤ 14) : codeVal D = (if 12 < c.size then (noB, 1) else (c, 0)) ∧ D.size ≤ 64 := by
  obtain ⟨h1, h2, h3⟩ := h
  rw [sizeL] at h3
  have hv : validB D = true := valid_plainW h1 (by omega)
  have e : codeTxt D = c := by
    apply ba_ext
    unfold codeTxt
    rw [list_bs, TM.noSp_fold, h2, List.take_length]
  refine ⟨?_, by omega⟩
  by_cases hc : 12 < c.size
  · rw [if_pos hc, code_limit hv (by rw [e]; exact hc)]
  · rw [if_neg hc, code_fine hv (by rw [e]; exact hc), e]
theorem count_nil : Lib.count [] [32] = 0 := rfl
theorem count_cons (b : UInt8) (t : List UInt8) : Lib.count (b :: t) [32] = if b = 32 then Lib.count t [32] + 1 else Lib.count t [32] := by
  by_cases h : b = 32
  · subst h
    have hi : Lib.index (32 :: t) [32] = ((0 : Nat) : Int) := by rw [index_cons, if_pos rfl]; rfl
    have hc := Lib.count_hit (s := 32 :: t) (sub := [32]) (by simp) hi
    rw [if_pos rfl, hc]
    simp
    omega
  · rw [if_neg h]
    rcases Lib.index_spec t [32] with ⟨hm, _⟩ | ⟨i, hi, hle, ho, _⟩
    · have hm2 : Lib.index (b :: t) [32] = -1 := by rw [index_cons, if_neg h, if_pos hm]
      rw [Lib.count_miss hm, Lib.count_miss hm2]
    · have hi2 : Lib.index (b :: t) [32] = ((i + 1 : Nat) : Int) := by rw [index_cons, if_neg h, if_neg (by omega), hi]; rfl
      have c1 := Lib.count_hit (s := t) (sub := [32]) (by simp) hi
      have c2 := Lib.count_hit (s := b :: t) (sub := [32]) (by simp) hi2
      replace c2 : Lib.count (b :: t) [32] = 1 + Lib.count (t.drop (i + 1)) [32] := c2
      replace c1 : Lib.count t [32] = 1 + Lib.count (t.drop (i + 1)) [32] := c1
      rw [c1, c2]
theorem replK_space (k : Nat) (t : List UInt8) : Lib.replaceK [32] [] (k + 1) (32 :: t) = Lib.replaceK [32] [] k t := by
  have hi : Lib.index (32 :: t) [32] = ((0 : Nat) : Int) := by rw [index_cons, if_pos rfl]; rfl
  rw [Lib.replaceK_hit _ _ k _ 0 hi]
  simp
theorem replK_cons (k : Nat) (b : UInt8) (t : List UInt8) (h : b ≠ 32) : Lib.replaceK [32] [] k (b :: t) = b :: Lib.replaceK [32] [] k t := by
  cases k with
  | zero => rfl
  | succ k =>
    rcases Lib.index_spec t [32] with ⟨hm, _⟩ | ⟨i, hi, _⟩
    · have hm2 : Lib.index (b :: t) [32] = -1 := by rw [index_cons, if_neg h, if_pos hm]
      rw [Lib.replaceK, hm2, Lib.replaceK, hm]
      rfl
    · have hi2 : Lib.index (b :: t) [32] = ((i + 1 : Nat) : Int) := by rw [index_cons, if_neg h, if_neg (by omega), hi]; rfl
      rw [Lib.replaceK_hit _ _ k _ _ hi, Lib.replaceK_hit _ _ k _ _ hi2]
      simp
theorem replaceAll_noSp (l : List UInt8) : Lib.replaceAll l [32] [] = TM.noSp l := by
  have h : ∀ l, Lib.replaceK [32] [] (Lib.count l [32]) l = TM.noSp l := by
    intro l
    induction l with
    | nil => rfl
    | cons b t ih =>
      rw [count_cons]
      by_cases hb : b = 32
      · subst hb
        rw [if_pos rfl, replK_space, ih]; rfl
      · rw [if_neg hb, replK_cons _ _ _ hb, ih]
        have : (b == 32) = false := beq_eq_false_iff_ne.2 hb
        unfold TM.noSp
        rw [List.filter_cons, this]; rfl
  have h1 : Lib.replaceNum l [32] (-1) = Lib.count l [32] := by unfold Lib.replaceNum; rw [if_pos (.inl (by decide))]
  unfold Lib.replaceAll Lib.replace
  rw [if_neg (by decide), h1, h]

theorem join_cons_len (a : List UInt8) (t : List (List UInt8)) : (TM.join t).length ≤ (TM.join (a :: t)).length ∧ (TM.join (a :: t)).length ≤ a.length + 1 + (TM.join t).length ∧ (t ≠ [] → (TM.join (a :: t)).length = a.length + 1 + (TM.join t).length) := by
  cases t with
  | nil => simp [TM.join]
  | cons b u => simp [TM.join]; omega
theorem join_filter_len (xs : List ByteArray) (p : ByteArray → Bool) : (TM.join ((xs.filter p).map (·.data.toList))).length ≤ (TM.join (xs.map (·.data.toList))).length := by
  induction xs with
  | nil => simp
  | cons a t ih =>
    rw [List.filter_cons]
    split
    · rw [List.map_cons, List.map_cons]
      obtain ⟨h1, h2, h3⟩ := join_cons_len a.data.toList (t.map (·.data.toList))
      obtain ⟨k1, k2, k3⟩ := join_cons_len a.data.toList ((t.filter p).map (·.data.toList))
      by_cases ht : t.filter p = []
      · rw [ht]
        cases t with
        | nil => simp
        | cons b u => simp [TM.join]
      · have ht2 : t ≠ [] := by rintro rfl; exact ht rfl
        rw [h3 (by simpa using ht2), k3 (by simpa using ht)]
        omega
    · rw [List.map_cons]
      have := (join_cons_len a.data.toList (t.map (·.data.toList))).1
      omega
end Go.Proofs.YthplnfblpdojkaaDoor
