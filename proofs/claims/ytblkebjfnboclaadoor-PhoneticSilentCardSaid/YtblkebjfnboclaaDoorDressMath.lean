/- Dressed texts in plain lists: other cases, separators and apostrophes are folded away. -/
import Derived.Test.YtblkebjfnboclaaDoorTextMath
namespace Go.Proofs.YtblkebjfnboclaaDoor.TM

/-- r writes s with other separators, cases and apostrophes. -/
def drs : List UInt8 → List UInt8 → Prop
  | [], r => r = []
  | c :: t, r => (c.toNat = 32 ∧ ∃ sp r', (sp = [32] ∨ sp = [45] ∨ sp = [44, 32] ∨ sp = [46] ∨ sp = [32, 32] ∨ sp = [47]) ∧ r = sp ++ r' ∧ drs t r') ∨
      (c.toNat ≠ 32 ∧ ∃ (c' : UInt8) (q r' : List UInt8), (c' = c ∨ (lower c = true ∧ c'.toNat + 32 = c.toNat)) ∧ (q = [] ∨ q = [39]) ∧ r = c' :: (q ++ r') ∧ drs t r')

theorem drs_space {c : UInt8} {t r sp : List UInt8} (h : c.toNat = 32) (hs : sp = [32] ∨ sp = [45] ∨ sp = [44, 32] ∨ sp = [46] ∨ sp = [32, 32] ∨ sp = [47]) (hr : drs t r) : drs (c :: t) (sp ++ r) := .inl ⟨h, sp, r, hs, rfl, hr⟩
theorem drs_char {c c' : UInt8} {t r q : List UInt8} (h : c.toNat ≠ 32) (hc : c' = c ∨ (lower c = true ∧ c'.toNat + 32 = c.toNat)) (hq : q = [] ∨ q = [39]) (hr : drs t r) : drs (c :: t) (c' :: (q ++ r)) := .inr ⟨h, c', q, r, hc, hq, rfl, hr⟩

/-- Letters from a to z and spaces. -/
def soft (c : UInt8) : Bool := lower c || c.toNat == 32

theorem spell_sep (x : UInt8) (r : List UInt8) (h : x.toNat = 32 ∨ x.toNat = 45 ∨ x.toNat = 44 ∨ x.toNat = 46 ∨ x.toNat = 47) : spell (x :: r) = 32 :: spell r := by
  rw [spell_one _ _ (by omega), one_sep x (by omega) (by simp [lower]; omega) (by omega) (by omega)]
  rfl
theorem words_two (p x : List UInt8) : words p (32 :: 32 :: x) = words p (32 :: x) := by
  have h : (32 : UInt8).toNat = 32 := rfl
  by_cases hp : p = [] <;> simp [words, h, hp]

theorem words_drs (s : List UInt8) : ∀ r p rest, drs s r → s.all soft = true → words p (spell (r ++ rest)) = words p (s ++ spell rest) := by
  induction s with
  | nil => intro r p rest h _; simp only [drs] at h; subst h; rfl
  | cons c t ih =>
    intro r p rest h hs
    simp only [List.all_cons, Bool.and_eq_true] at hs
    obtain ⟨hc, ht⟩ := hs
    rcases h with ⟨h32, sp, r', hsp, rfl, hr⟩ | ⟨h32, c', q, r', hcc, hq, rfl, hr⟩
    · have hc32 : c = 32 := u8_ext h32
      subst hc32
      have h2 : ∀ x : List UInt8, words p (32 :: x) = (if p = [] then [] else [p]) ++ words [] x := by
        intro x
        have h : (32 : UInt8).toNat = 32 := rfl
        by_cases hp : p = [] <;> simp [words, h, hp]
      rw [List.append_assoc, List.cons_append, h2, ← ih r' [] rest hr ht, ← h2]
      rcases hsp with rfl | rfl | rfl | rfl | rfl | rfl
      all_goals simp only [List.cons_append, List.nil_append]
      · rw [spell_sep _ _ (by decide)]
      · rw [spell_sep _ _ (by decide)]
      · rw [spell_sep _ _ (by decide), spell_sep _ _ (by decide), words_two]
      · rw [spell_sep _ _ (by decide)]
      · rw [spell_sep _ _ (by decide), spell_sep _ _ (by decide), words_two]
      · rw [spell_sep _ _ (by decide)]
    · have hl : lower c = true := by
        unfold soft at hc
        simp at hc
        rcases hc with hc | hc
        · exact hc
        · exact absurd hc h32
      have hl' : 97 ≤ c.toNat ∧ c.toNat ≤ 122 := by simpa [lower] using hl
      have h1 : ∀ x, spell (c' :: x) = c :: spell x := by
        intro x
        rcases hcc with rfl | ⟨_, e⟩
        · rw [spell_one _ _ (by omega), one_same _ (.inl hl)]; rfl
        · rw [spell_one _ _ (by omega), one_upper c' (by omega) (by omega)]
          have : c' + 32 = c := u8_ext (by rw [add32 c' (by omega) (by omega)]; omega)
          rw [this]; rfl
      have h3 : ∀ x, spell (q ++ x) = spell x := by
        intro x
        rcases hq with rfl | rfl
        · rfl
        · rw [List.singleton_append, spell_one _ _ (by decide), one_quote 39 (by decide)]; rfl
      simp only [List.cons_append, List.append_assoc]
      rw [h1, h3]
      simp only [words, h32, if_false]
      exact ih r' (p ++ [c]) rest hr ht

theorem words_end (s : List UInt8) : ∀ p, words p (s ++ [32]) = words p s := by
  have h : (32 : UInt8).toNat = 32 := rfl
  induction s with
  | nil => intro p; by_cases hp : p = [] <;> simp [words, h, hp]
  | cons c t ih =>
    intro p
    by_cases hc : c.toNat = 32
    · by_cases hp : p = [] <;> simp [words, hc, hp, ih]
    · simp [words, hc, ih]

theorem words_start (s : List UInt8) : words [] (32 :: s) = words [] s := by
  have h : (32 : UInt8).toNat = 32 := rfl
  simp [words, h]

/-- What a dressed text is folded to. -/
theorem fold_dressed (s pre body post : List UInt8) (hs : s.all soft = true) (hd : drs s body) (hpre : pre = [] ∨ pre = [32] ∨ pre = [45]) (hpost : post = [] ∨ post = [32] ∨ post = [46]) :
    fold (pre ++ body ++ post) = join (words [] s) := by
  have hp : ∀ p, words p (s ++ spell post) = words p s := by
    intro p
    rcases hpost with rfl | rfl | rfl
    · simp [spell_nil]
    · rw [spell_sep _ _ (by decide), spell_nil, words_end]
    · rw [spell_sep _ _ (by decide), spell_nil, words_end]
  unfold fold
  congr 1
  rw [List.append_assoc]
  rcases hpre with rfl | rfl | rfl
  · rw [List.nil_append, words_drs s body [] post hd hs, hp]
  · rw [List.singleton_append, spell_sep _ _ (by decide), words_start, words_drs s body [] post hd hs, hp]
  · rw [List.singleton_append, spell_sep _ _ (by decide), words_start, words_drs s body [] post hd hs, hp]

theorem ok_all (l : List UInt8) (h : l.all plain = true) : ok l = true := by
  induction l with
  | nil => simp [ok]
  | cons c t ih =>
    simp only [List.all_cons, Bool.and_eq_true] at h
    have h1 : 32 ≤ c.toNat ∧ c.toNat ≤ 126 := by simpa [plain] using h.1
    rw [ok_plain c t h1.1 h1.2]
    exact ih h.2
theorem plain_drs (s : List UInt8) : ∀ r, drs s r → s.all soft = true → r.all plain = true := by
  induction s with
  | nil => intro r h _; simp only [drs] at h; subst h; rfl
  | cons c t ih =>
    intro r h hs
    simp only [List.all_cons, Bool.and_eq_true] at hs
    obtain ⟨hc, ht⟩ := hs
    rcases h with ⟨h32, sp, r', hsp, rfl, hr⟩ | ⟨h32, c', q, r', hcc, hq, rfl, hr⟩
    · rw [List.all_append, ih r' hr ht, Bool.and_true]
      rcases hsp with rfl | rfl | rfl | rfl | rfl | rfl <;> decide
    · have hl' : 97 ≤ c.toNat ∧ c.toNat ≤ 122 := by
        unfold soft lower at hc
        simp at hc
        omega
      have h1 : plain c' = true := by
        rcases hcc with rfl | ⟨_, e⟩
        · simp [plain]; omega
        · simp [plain]; omega
      rw [List.all_cons, List.all_append, h1, ih r' hr ht, Bool.and_true, Bool.true_and]
      rcases hq with rfl | rfl <;> decide

/-- Two words of letters. -/
theorem words_two_of (a b : List UInt8) (ha : a.all lower = true) (hb : b.all lower = true) (ha0 : a ≠ []) (hb0 : b ≠ []) : words [] (a ++ 32 :: b) = [a, b] := by
  have h : (32 : UInt8).toNat = 32 := rfl
  have one : ∀ (l : List UInt8) (p rest : List UInt8), l.all lower = true → words p (l ++ rest) = words (p ++ l) rest := by
    intro l
    induction l with
    | nil => intro p rest _; simp
    | cons c t ih =>
      intro p rest hl
      simp only [List.all_cons, Bool.and_eq_true] at hl
      have hc : ¬ c.toNat = 32 := by
        have := hl.1
        unfold lower at this
        simp at this
        omega
      simp only [List.cons_append, words, hc, if_false]
      rw [ih _ _ hl.2]
      simp
  rw [one a [] _ ha, List.nil_append]
  simp only [words, h, if_true, ha0, if_false]
  have := one b [] [] hb
  rw [List.append_nil, List.nil_append] at this
  rw [this]
  simp [words, hb0]
theorem soft_of (l : List UInt8) (h : l.all lower = true) : l.all soft = true := by
  rw [List.all_eq_true] at h ⊢
  intro c hc
  simp [soft, h c hc]
theorem drs_self (s : List UInt8) : drs s s := by
  induction s with
  | nil => rfl
  | cons c t ih =>
    by_cases h : c.toNat = 32
    · have : c = 32 := u8_ext h
      subst this
      exact drs_space (sp := [32]) h (.inl rfl) ih
    · exact drs_char (q := []) h (.inl rfl) (.inl rfl) ih
/-- A text of letters and single words is folded to its words. -/
theorem fold_soft (s : List UInt8) (h : s.all soft = true) : fold s = join (words [] s) := by
  have := fold_dressed s [] s [] h (drs_self s) (.inl rfl) (.inl rfl)
  simpa using this
end Go.Proofs.YtblkebjfnboclaaDoor.TM
