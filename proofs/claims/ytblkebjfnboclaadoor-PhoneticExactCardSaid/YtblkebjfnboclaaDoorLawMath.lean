/- What layer 1's statements need of plain lists. -/
import Derived.Test.YtblkebjfnboclaaDoorDressMath
namespace Go.Proofs.YtblkebjfnboclaaDoor.TM

/-- A word: at least one byte, none a space. -/
def word (l : List UInt8) : Prop := l ≠ [] ∧ ∀ c ∈ l, c.toNat ≠ 32
theorem words_word (m : List UInt8) : ∀ p, (∀ c ∈ p, c.toNat ≠ 32) → ∀ t ∈ words p m, word t := by
  induction m with
  | nil => intro p hp t ht; by_cases h : p = [] <;> simp [words, h] at ht; subst ht; exact ⟨h, hp⟩
  | cons c u ih =>
    intro p hp t ht
    by_cases hc : c.toNat = 32
    · by_cases h : p = []
      · simp [words, hc, h] at ht; exact ih [] (by simp) _ ht
      · simp [words, hc, h] at ht
        rcases ht with rfl | ht
        · exact ⟨h, hp⟩
        · exact ih [] (by simp) _ ht
    · simp [words, hc] at ht
      refine ih (p ++ [c]) ?_ _ ht
      intro x hx
      rcases List.mem_append.1 hx with hx | hx
      · exact hp x hx
      · simp at hx; subst hx; exact hc
theorem words_mem (m : List UInt8) : ∀ p, ∀ t ∈ words p m, ∀ c ∈ t, c ∈ p ∨ c ∈ m := by
  induction m with
  | nil => intro p t ht c hc; by_cases h : p = [] <;> simp [words, h] at ht; subst ht; exact .inl hc
  | cons x u ih =>
    intro p t ht c hc
    by_cases hx : x.toNat = 32
    · by_cases h : p = []
      · simp [words, hx, h] at ht
        rcases ih [] _ ht c hc with h' | h'
        · simp at h'
        · exact .inr (by simp [h'])
      · simp [words, hx, h] at ht
        rcases ht with rfl | ht
        · exact .inl hc
        · rcases ih [] _ ht c hc with h' | h'
          · simp at h'
          · exact .inr (by simp [h'])
    · simp [words, hx] at ht
      rcases ih (p ++ [x]) _ ht c hc with h' | h'
      · rcases List.mem_append.1 h' with h' | h'
        · exact .inl h'
        · simp at h'; exact .inr (by simp [h'])
      · exact .inr (by simp [h'])

theorem words_free (l : List UInt8) (h : ∀ c ∈ l, c.toNat ≠ 32) : ∀ p rest, words p (l ++ rest) = words (p ++ l) rest := by
  induction l with
  | nil => intro p rest; simp
  | cons c t ih =>
    intro p rest
    have hc : ¬ c.toNat = 32 := h c (by simp)
    simp only [List.cons_append, words, hc, if_false]
    rw [ih (fun x hx => h x (by simp [hx]))]
    simp
/-- The words of joined words. -/
theorem words_join (ws : List (List UInt8)) (h : ∀ t ∈ ws, word t) : words [] (join ws) = ws := by
  have h32 : (32 : UInt8).toNat = 32 := rfl
  induction ws with
  | nil => rfl
  | cons a t ih =>
    have ha := h a (by simp)
    cases t with
    | nil =>
      have := words_free a ha.2 [] []
      simp only [List.append_nil, List.nil_append] at this
      simp [join, this, words, ha.1]
    | cons b u =>
      have ih := ih (fun x hx => h x (by simp [hx]))
      show words [] (a ++ 32 :: join (b :: u)) = _
      rw [words_free a ha.2 [] _, List.nil_append]
      simp only [words, h32, if_true, ha.1, if_false]
      rw [ih]
theorem words_fold (l : List UInt8) : words [] (fold l) = words [] (spell l) :=
  words_join _ (words_word _ _ (by simp))

/-- A space within joined words has a word on both sides. -/
theorem join_inner (ws : List (List UInt8)) (h : ∀ t ∈ ws, word t) : (∀ c, (join ws)[0]? = some c → c.toNat ≠ 32) ∧
    ∀ i c, (join ws)[i]? = some c → c.toNat = 32 → 0 < i ∧ ∃ d, (join ws)[i + 1]? = some d ∧ d.toNat ≠ 32 := by
  induction ws with
  | nil => exact ⟨by simp [join], by simp [join]⟩
  | cons a t ih =>
    have ha := h a (by simp)
    have hpos : 0 < a.length := List.length_pos_iff.2 ha.1
    cases t with
    | nil =>
      refine ⟨fun c hc => ha.2 c (List.mem_of_getElem? hc), fun i c hc h32 => absurd h32 (ha.2 c (List.mem_of_getElem? hc))⟩
    | cons b u =>
      obtain ⟨i1, i2⟩ := ih (fun x hx => h x (by simp [hx]))
      have hne : join (b :: u) ≠ [] := join_ne _ (by simp) (fun x hx => (h x (by simp at hx ⊢; right; exact hx)).1)
      show (∀ c, (a ++ 32 :: join (b :: u))[0]? = some c → c.toNat ≠ 32) ∧ ∀ i c, (a ++ 32 :: join (b :: u))[i]? = some c → c.toNat = 32 → 0 < i ∧ ∃ d, (a ++ 32 :: join (b :: u))[i + 1]? = some d ∧ d.toNat ≠ 32
      refine ⟨fun c hc => ?_, fun i c hc h32 => ?_⟩
      · rw [List.getElem?_append_left hpos] at hc
        exact ha.2 c (List.mem_of_getElem? hc)
      · rcases Nat.lt_trichotomy i a.length with hi | hi | hi
        · rw [List.getElem?_append_left hi] at hc
          exact absurd h32 (ha.2 c (List.mem_of_getElem? hc))
        · subst hi
          refine ⟨hpos, ?_⟩
          rw [List.getElem?_append_right (by omega), Nat.add_sub_cancel_left]
          cases hj : join (b :: u) with
          | nil => exact absurd hj hne
          | cons d v => exact ⟨d, rfl, i1 d (by rw [hj]; rfl)⟩
        · rw [List.getElem?_append_right (by omega)] at hc ⊢
          obtain ⟨m, hm⟩ : ∃ m, i = a.length + 1 + m := ⟨i - a.length - 1, by omega⟩
          subst hm
          have e1 : a.length + 1 + m - a.length = m + 1 := by omega
          have e2 : a.length + 1 + m + 1 - a.length = m + 1 + 1 := by omega
          rw [e1, List.getElem?_cons_succ] at hc
          rw [e2, List.getElem?_cons_succ]
          exact ⟨by omega, (i2 m c hc h32).2⟩

/-- Letters, digits, spaces: what Fold gives consists of. -/
def fine (c : UInt8) : Bool := lower c || digit c || c.toNat == 32
theorem spell_fine (m : List UInt8) (h : m.all fine = true) : spell m = m := by
  induction m with
  | nil => exact spell_nil
  | cons c t ih =>
    simp only [List.all_cons, Bool.and_eq_true] at h
    have hc : (97 ≤ c.toNat ∧ c.toNat ≤ 122) ∨ (48 ≤ c.toNat ∧ c.toNat ≤ 57) ∨ c.toNat = 32 := by
      have := h.1
      simp [fine, lower, digit] at this
      omega
    rw [spell_one c t (by omega), ih h.2]
    by_cases h32 : c.toNat = 32
    · rw [one_sep c (by omega) (by simp [lower]; omega) (by omega) (by omega)]
      have : c = 32 := u8_ext h32
      rw [this]; rfl
    · rw [one_same c (by rcases hc with hc | hc | hc <;> simp [lower] <;> omega)]; rfl
theorem join_all {f : UInt8 → Bool} (hf : f 32 = true) (ws : List (List UInt8)) (h : ∀ t ∈ ws, t.all f = true) : (join ws).all f = true := by
  induction ws with
  | nil => rfl
  | cons a t ih =>
    cases t with
    | nil => exact h a (by simp)
    | cons b u =>
      show (a ++ 32 :: join (b :: u)).all f = true
      rw [List.all_append, List.all_cons, h a (by simp), hf, ih (fun x hx => h x (by simp at hx ⊢; right; exact hx))]
      rfl
theorem repl_lower : ∀ n : Fin 256, second (UInt8.ofNat n.val) = true → (repl (UInt8.ofNat n.val)).all lower = true := by decide +kernel
theorem repl_low (d : UInt8) (h : second d = true) : (repl d).all lower = true := by
  have := repl_lower ⟨d.toNat, d.toNat_lt⟩
  simp only [UInt8.ofNat_toNat] at this
  exact this h
theorem one_fine (c : UInt8) : (one c).all fine = true := by
  unfold one
  by_cases h1 : upper c = true
  · rw [if_pos h1]
    have h : 65 ≤ c.toNat ∧ c.toNat ≤ 90 := by simpa [upper] using h1
    have e := add32 c (by omega) (by omega)
    simp [fine, lower, e]
    omega
  · rw [if_neg h1]
    by_cases h2 : (lower c || digit c) = true
    · rw [if_pos h2]; simp [fine, h2]
    · rw [if_neg h2]
      by_cases h3 : c.toNat = 39
      · rw [if_pos h3]; rfl
      · rw [if_neg h3]; decide
theorem spell_all_fine (l : List UInt8) (h : ok l = true) : (spell l).all fine = true := by
  induction l using spell.induct with
  | case1 => rw [spell_nil]; rfl
  | case2 c hc => rw [spell_alone c hc]; rfl
  | case3 c hc d u ih =>
    obtain ⟨d', u', e, h1, h2⟩ := ok_195 c (d :: u) hc h
    obtain ⟨rfl, rfl⟩ := List.cons.inj e
    rw [spell_pair _ _ _ hc, List.all_append, ih h2, Bool.and_true]
    have := repl_low d h1
    rw [List.all_eq_true] at this ⊢
    intro x hx
    simp [fine, this x hx]
  | case4 c t hc ih =>
    rw [spell_one _ _ hc, List.all_append, one_fine, ih (ok_rest c t hc h)]
    rfl
theorem fold_fine (l : List UInt8) (h : ok l = true) : (fold l).all fine = true := by
  refine join_all (by decide) _ (fun t ht => ?_)
  rw [List.all_eq_true]
  intro c hc
  rcases words_mem _ _ t ht c hc with h' | h'
  · simp at h'
  · exact List.all_eq_true.1 (spell_all_fine l h) c h'
/-- Folding twice. -/
theorem fold_fold (l : List UInt8) (h : ok l = true) : fold (fold l) = fold l := by
  show join (words [] (spell (fold l))) = _
  rw [spell_fine _ (fold_fine l h), words_fold]
  rfl
theorem fine_plain (l : List UInt8) (h : l.all fine = true) : l.all plain = true := by
  rw [List.all_eq_true] at h ⊢
  intro c hc
  have := h c hc
  simp [fine, lower, digit] at this
  simp [plain]
  omega

/-- Lower letters. -/
def lows (l : List UInt8) : Prop := l ≠ [] ∧ l.all lower = true
theorem lows.word_ {l : List UInt8} (h : lows l) : word l := ⟨h.1, fun c hc => by
  have := List.all_eq_true.1 h.2 c hc
  simp [lower] at this
  omega⟩
theorem spell_lows {l : List UInt8} (h : l.all lower = true) (x : List UInt8) : spell (l ++ x) = l ++ spell x := by
  induction l with
  | nil => rfl
  | cons c t ih =>
    simp only [List.all_cons, Bool.and_eq_true] at h
    have hc : 97 ≤ c.toNat ∧ c.toNat ≤ 122 := by simpa [lower] using h.1
    rw [List.cons_append, spell_one _ _ (by omega), one_same c (.inl h.1), ih h.2]
    rfl
theorem fold_dash {a b : List UInt8} (ha : lows a) (hb : lows b) : fold (a ++ [45] ++ b) = a ++ 32 :: b := by
  unfold fold
  rw [List.append_assoc, spell_lows ha.2, List.singleton_append, spell_sep _ _ (by decide)]
  have := spell_lows hb.2 []
  rw [List.append_nil, spell_nil, List.append_nil] at this
  rw [this, words_two_of a b ha.2 hb.2 ha.1 hb.1]
  rfl
theorem fold_space {a b : List UInt8} (ha : lows a) (hb : lows b) : fold (a ++ [32] ++ b) = a ++ 32 :: b := by
  unfold fold
  rw [List.append_assoc, spell_lows ha.2, List.singleton_append, spell_sep _ _ (by decide)]
  have := spell_lows hb.2 []
  rw [List.append_nil, spell_nil, List.append_nil] at this
  rw [this, words_two_of a b ha.2 hb.2 ha.1 hb.1]
  rfl
theorem fold_many {a b : List UInt8} (ha : lows a) (hb : lows b) : fold ([32] ++ a ++ [32, 46, 47, 32] ++ b ++ [44]) = a ++ 32 :: b := by
  unfold fold
  have h32 : (32 : UInt8).toNat = 32 := rfl
  have e : [32] ++ a ++ [32, 46, 47, 32] ++ b ++ [44] = 32 :: (a ++ (32 :: 46 :: 47 :: 32 :: (b ++ [44]))) := by simp
  rw [e, spell_sep _ _ (by decide), spell_lows ha.2, spell_sep _ _ (by decide), spell_sep _ _ (by decide), spell_sep _ _ (by decide), spell_sep _ _ (by decide), spell_lows hb.2,
    spell_sep _ _ (by decide), spell_nil, words_start]
  rw [words_free a (ha.word_).2, List.nil_append, words_two, words_two, words_two]
  simp only [words, h32, if_true, ha.1, if_false]
  rw [words_end, ← List.append_nil b, words_free b (hb.word_).2]
  simp [words, hb.1, join]
theorem fold_quote {a b : List UInt8} (ha : lows a) (hb : lows b) : fold (a ++ [39] ++ b) = a ++ b := by
  unfold fold
  rw [List.append_assoc, spell_lows ha.2, List.singleton_append, spell_one _ _ (by decide), one_quote 39 (by decide), List.nil_append]
  have := spell_lows hb.2 []
  rw [List.append_nil, spell_nil, List.append_nil] at this
  rw [this, words_free a (ha.word_).2, ← List.append_nil b, words_free b (hb.word_).2]
  simp [words, ha.1, join]
theorem plain_lows {l : List UInt8} (h : lows l) : l.all plain = true := by
  have h := h.2
  rw [List.all_eq_true] at h ⊢
  intro c hc
  have := h c hc
  simp [lower] at this
  simp [plain]
  omega
end Go.Proofs.YtblkebjfnboclaaDoor.TM
