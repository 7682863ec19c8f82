/- Layer 1 in plain lists of bytes: what valid texts are, what folding, parting and joining give, and that the two ways of folding give the same. No Go in sight. -/
import Init.Data.List.Lemmas
namespace Go.Proofs.Ytfcnodiepdnegaa.TM

/-- The document's replacement of a pair, by its second byte. -/
def repl (d : UInt8) : List UInt8 :=
  let k := d.toNat % 32
  if k = 6 then [97, 101] else if k = 7 then [99] else if k = 23 then [] else if k = 30 then [116, 104]
  else if d.toNat = 159 then [115, 115] else if d.toNat = 191 then [121]
  else if k < 6 then [97] else if k < 12 then [101] else if k < 16 then [105] else if k = 16 then [100] else if k = 17 then [110]
  else if k < 25 then [111] else if k < 29 then [117] else if k = 29 then [121] else [63]

def lower (c : UInt8) : Bool := 97 ≤ c.toNat && c.toNat ≤ 122
def upper (c : UInt8) : Bool := 65 ≤ c.toNat && c.toNat ≤ 90
def digit (c : UInt8) : Bool := 48 ≤ c.toNat && c.toNat ≤ 57
def plain (c : UInt8) : Bool := 32 ≤ c.toNat && c.toNat ≤ 126
def second (d : UInt8) : Bool := 128 ≤ d.toNat && d.toNat ≤ 191

/-- Permitted bytes and whole pairs. -/
def ok : List UInt8 → Bool
  | [] => true
  | c :: t => if plain c then ok t else match t with
    | [] => false
    | d :: u => c.toNat == 195 && second d && ok u

def valid (l : List UInt8) : Bool := decide (l.length ≤ 64) && ok l

/-- What one byte that begins no pair is spelled as. -/
def one (c : UInt8) : List UInt8 :=
  if upper c then [c + 32] else if lower c || digit c then [c] else if c.toNat = 39 then [] else [32]

def spell : List UInt8 → List UInt8
  | [] => []
  | c :: t => if c.toNat = 195 then (match t with | [] => [] | d :: u => repl d ++ spell u) else one c ++ spell t

/-- Parts between spaces; p is the part that is under way. -/
def words (p : List UInt8) : List UInt8 → List (List UInt8)
  | [] => if p = [] then [] else [p]
  | c :: t => if c.toNat = 32 then (if p = [] then words [] t else p :: words [] t) else words (p ++ [c]) t

def join : List (List UInt8) → List UInt8
  | [] => []
  | [a] => a
  | a :: b :: t => a ++ 32 :: join (b :: t)

def fold (l : List UInt8) : List UInt8 := join (words [] (spell l))

/-- The other way: letter by letter, with a note that a separator came. -/
def put (sep : Bool) (out add : List UInt8) : Bool × List UInt8 :=
  if add = [] then (sep, out) else (false, (if sep = true ∧ out ≠ [] then out ++ [32] else out) ++ add)

def rf (sep : Bool) (out : List UInt8) : List UInt8 → List UInt8
  | [] => out
  | c :: t =>
    if c.toNat = 195 then (match t with | [] => out | d :: u => rf (put sep out (repl d)).1 (put sep out (repl d)).2 u)
    else if upper c then rf (put sep out [c + 32]).1 (put sep out [c + 32]).2 t
    else if lower c || digit c then rf (put sep out [c]).1 (put sep out [c]).2 t
    else if c.toNat = 39 then rf sep out t
    else rf true out t

/-- Letter by letter over what is spelled. -/
def rg (sep : Bool) (out : List UInt8) : List UInt8 → List UInt8
  | [] => out
  | c :: t => if c.toNat = 32 then rg true out t else rg false ((if sep = true ∧ out ≠ [] then out ++ [32] else out) ++ [c]) t

theorem join_snoc (ts : List (List UInt8)) (p : List UInt8) (h : ts ≠ []) : join (ts ++ [p]) = join ts ++ 32 :: p := by
  induction ts with
  | nil => exact absurd rfl h
  | cons a t ih =>
    cases t with
    | nil => rfl
    | cons b u =>
      have := ih (by simp)
      simp only [List.cons_append, join, List.append_assoc] at this ⊢
      rw [this]

theorem join_ne (ts : List (List UInt8)) (h : ts ≠ []) (hn : ∀ t ∈ ts, t ≠ []) : join ts ≠ [] := by
  match ts, h with
  | [a], _ => exact hn a (by simp)
  | a :: b :: u, _ => simp [join]

/-- The state of 'rg' against finished words and the word under way. -/
theorem rg_words (m : List UInt8) : ∀ (sep : Bool) (out : List UInt8) (ts : List (List UInt8)) (p : List UInt8),
    (∀ t ∈ ts, t ≠ []) → (p ≠ [] → sep = false ∧ out = join (ts ++ [p])) → (p = [] → out = join ts ∧ (ts ≠ [] → sep = true)) →
    rg sep out m = join (ts ++ words p m) := by
  induction m with
  | nil =>
    intro sep out ts p hts h1 h2
    by_cases hp : p = []
    · subst hp
      simp [rg, words, (h2 rfl).1]
    · simp [rg, words, hp, (h1 hp).2]
  | cons c t ih =>
    intro sep out ts p hts h1 h2
    by_cases hc : c.toNat = 32
    · simp only [rg, words, hc, if_pos]
      by_cases hp : p = []
      · subst hp
        simp only [if_pos]
        exact ih true out ts [] hts (fun h => absurd rfl h) (fun _ => ⟨(h2 rfl).1, fun _ => rfl⟩)
      · simp only [if_neg hp]
        have := ih true out (ts ++ [p]) [] (by
            intro x hx
            rcases List.mem_append.1 hx with hx | hx
            · exact hts x hx
            · simp at hx; subst hx; exact hp) (fun h => absurd rfl h) (fun _ => ⟨(h1 hp).2, fun _ => rfl⟩)
        rw [this]; simp
    · simp only [rg, words, hc, if_neg, not_false_eq_true]
      refine ih false _ ts (p ++ [c]) hts (fun _ => ⟨rfl, ?_⟩) (fun h => by simp at h)
      by_cases hp : p = []
      · subst hp
        obtain ⟨ho, hs⟩ := h2 rfl
        by_cases ht : ts = []
        · subst ht
          have : out = [] := by simpa [join] using ho
          subst this
          simp [join]
        · rw [if_pos ⟨hs ht, by rw [ho]; exact join_ne ts ht hts⟩, ho]
          simp [join_snoc ts [c] ht]
      · obtain ⟨hs, ho⟩ := h1 hp
        rw [if_neg (by rw [hs]; simp), ho]
        by_cases ht : ts = []
        · subst ht; simp [join]
        · rw [join_snoc ts _ ht, join_snoc ts _ ht]; simp

theorem rg_add (a : List UInt8) (ha : ∀ c ∈ a, c.toNat ≠ 32) (sep : Bool) (out t : List UInt8) : rg sep out (a ++ t) = rg (put sep out a).1 (put sep out a).2 t := by
  cases a with
  | nil => simp [put]
  | cons c u =>
    have hc : c.toNat ≠ 32 := ha c (by simp)
    have hu : ∀ (u : List UInt8) (o : List UInt8), (∀ x ∈ u, x.toNat ≠ 32) → rg false o (u ++ t) = rg false (o ++ u) t := by
      intro u
      induction u with
      | nil => intro o _; simp
      | cons x v ih =>
        intro o hx
        have h1 : x.toNat ≠ 32 := hx x (by simp)
        simp only [List.cons_append, rg, h1, if_neg, not_false_eq_true]
        rw [if_neg (by simp), ih _ (fun y hy => hx y (by simp [hy]))]
        simp
    simp only [List.cons_append, rg, hc, if_neg, not_false_eq_true]
    rw [hu u _ (fun x hx => ha x (by simp [hx]))]
    simp [put]

theorem u8_ext {a b : UInt8} (h : a.toNat = b.toNat) : a = b := UInt8.toNat_inj.1 h

theorem all_ite {f : UInt8 → Bool} {c : Prop} [Decidable c] {a b : List UInt8} (ha : a.all f = true) (hb : b.all f = true) : (if c then a else b).all f = true := by
  split
  · exact ha
  · exact hb
theorem repl_all (d : UInt8) : (repl d).all (fun c => lower c || c.toNat == 63) = true := by
  unfold repl
  dsimp only
  repeat' refine all_ite ?_ ?_
  all_goals decide
theorem repl_letters (d : UInt8) : ∀ c ∈ repl d, c.toNat ≠ 32 := by
  intro c hc
  have := List.all_eq_true.1 (repl_all d) c hc
  unfold lower at this
  simp at this
  omega

theorem one_cases (c : UInt8) (h : c.toNat ≠ 195) : (one c = [32] ∧ upper c = false ∧ (lower c || digit c) = false ∧ c.toNat ≠ 39) ∨
    (∀ x ∈ one c, x.toNat ≠ 32) := by
  unfold one
  by_cases h1 : upper c = true
  · right
    rw [if_pos h1]
    intro x hx
    simp at hx
    subst hx
    unfold upper at h1
    simp at h1
    rw [UInt8.toNat_add]
    have : (32 : UInt8).toNat = 32 := rfl
    omega
  · rw [if_neg h1]
    by_cases h2 : (lower c || digit c) = true
    · right
      rw [if_pos h2]
      intro x hx
      simp at hx
      subst hx
      unfold lower digit at h2
      simp at h2
      omega
    · rw [if_neg h2]
      by_cases h3 : c.toNat = 39
      · right; rw [if_pos h3]; simp
      · left; rw [if_neg h3]
        exact ⟨rfl, by simpa using h1, by simpa using h2, h3⟩

theorem spell_nil : spell [] = [] := by simp [spell]
theorem spell_alone (c : UInt8) (h : c.toNat = 195) : spell [c] = [] := by simp [spell, h]
theorem spell_pair (c d : UInt8) (u : List UInt8) (h : c.toNat = 195) : spell (c :: d :: u) = repl d ++ spell u := by simp [spell, h]
theorem spell_one (c : UInt8) (t : List UInt8) (h : c.toNat ≠ 195) : spell (c :: t) = one c ++ spell t := by cases t <;> simp [spell, h]
theorem rf_nil (sep : Bool) (out : List UInt8) : rf sep out [] = out := by simp [rf]
theorem rf_alone (sep : Bool) (out : List UInt8) (c : UInt8) (h : c.toNat = 195) : rf sep out [c] = out := by simp [rf, h]
theorem rf_pair (sep : Bool) (out : List UInt8) (c d : UInt8) (u : List UInt8) (h : c.toNat = 195) : rf sep out (c :: d :: u) = rf (put sep out (repl d)).1 (put sep out (repl d)).2 u := by simp [rf, h]
theorem rf_one (sep : Bool) (out : List UInt8) (c : UInt8) (t : List UInt8) (h : c.toNat ≠ 195) : rf sep out (c :: t) =
    if upper c then rf (put sep out [c + 32]).1 (put sep out [c + 32]).2 t
    else if lower c || digit c then rf (put sep out [c]).1 (put sep out [c]).2 t
    else if c.toNat = 39 then rf sep out t
    else rf true out t := by
  cases t <;> simp [rf, h]

theorem rf_rg (l : List UInt8) : ∀ (sep : Bool) (out : List UInt8), rf sep out l = rg sep out (spell l) := by
  induction l using spell.induct with
  | case1 => intro sep out; simp [rf_nil, spell_nil, rg]
  | case2 c h =>
    intro sep out
    rw [rf_alone _ _ _ h, spell_alone _ h, rg]
  | case3 c h d u ih =>
    intro sep out
    rw [rf_pair _ _ _ _ _ h, spell_pair _ _ _ h, ih, rg_add _ (repl_letters d)]
  | case4 c t h ih =>
    intro sep out
    rw [rf_one _ _ _ _ h, spell_one _ _ h]
    rcases one_cases c h with ⟨e, h1, h2, h3⟩ | hl
    · rw [if_neg (by simp [h1]), if_neg (by simp [h2]), if_neg h3, ih, e]
      simp [rg]
    · rw [rg_add _ hl, ← ih]
      by_cases h1 : upper c = true
      · simp [h1, one]
      · by_cases h2 : (lower c || digit c) = true
        · rw [if_neg h1, if_pos h2]
          simp only [one, if_neg h1, if_pos h2]
        · by_cases h3 : c.toNat = 39
          · rw [if_neg h1, if_neg h2, if_pos h3]
            simp only [one, if_neg h1, if_neg h2, if_pos h3]
            simp [put]
          · exfalso
            have := hl 32 (by simp only [one, if_neg h1, if_neg h2, if_neg h3]; simp)
            exact this rfl

/-- The two ways of folding give the same. -/
theorem rf_fold (l : List UInt8) : rf false [] l = fold l := by
  rw [rf_rg, rg_words (spell l) false [] [] [] (by simp) (fun h => absurd rfl h) (fun _ => ⟨rfl, fun h => absurd rfl h⟩)]
  simp [fold]

theorem words_ne (m : List UInt8) : ∀ p, ∀ t ∈ words p m, t ≠ [] := by
  induction m with
  | nil => intro p t ht; by_cases hp : p = [] <;> simp [words, hp] at ht; subst ht; exact hp
  | cons c u ih =>
    intro p t ht
    by_cases hc : c.toNat = 32
    · by_cases hp : p = []
      · simp [words, hc, hp] at ht; exact ih _ _ ht
      · simp [words, hc, hp] at ht
        rcases ht with rfl | ht
        · exact hp
        · exact ih _ _ ht
    · simp [words, hc] at ht; exact ih _ _ ht

/-- Whether a text begins with a pair. -/
def starts : List UInt8 → Bool
  | c :: d :: _ => c.toNat == 195 && second d
  | _ => false

theorem ok_plain (c : UInt8) (t : List UInt8) (h : 32 ≤ c.toNat) (h' : c.toNat ≤ 126) : ok (c :: t) = ok t := by
  have : plain c = true := by simp [plain, h, h']
  cases t <;> simp [ok, this]
theorem ok_pair (c d : UInt8) (t : List UInt8) (h : starts (c :: d :: t) = true) : ok (c :: d :: t) = ok t := by
  simp [starts] at h
  have : plain c = false := by simp [plain, h.1]
  simp [ok, this, h.1, h.2]
theorem ok_not (c : UInt8) (t : List UInt8) (h : ¬ (32 ≤ c.toNat ∧ c.toNat ≤ 126)) (hs : starts (c :: t) = false) : ok (c :: t) = false := by
  have hp : plain c = false := by simp [plain]; omega
  cases t with
  | nil => simp [ok, hp]
  | cons d u =>
    simp [starts] at hs
    simp [ok, hp]
    intro h1 h2
    exact absurd h2 (by simp [hs h1])
theorem repl_le (d : UInt8) : (repl d).length ≤ 2 := by
  have key : ∀ {c : Prop} [Decidable c] {a b : List UInt8}, a.length ≤ 2 → b.length ≤ 2 → (if c then a else b).length ≤ 2 := by
    intro c _ a b ha hb
    split
    · exact ha
    · exact hb
  unfold repl
  dsimp only
  repeat' refine key ?_ ?_
  all_goals decide
theorem one_le (c : UInt8) : (one c).length ≤ 1 := by
  unfold one
  repeat' split
  all_goals simp
theorem ok_195 (c : UInt8) (t : List UInt8) (h : c.toNat = 195) (ho : ok (c :: t) = true) : ∃ d u, t = d :: u ∧ second d = true ∧ ok u = true := by
  have hp : plain c = false := by simp [plain, h]
  cases t with
  | nil => simp [ok, hp] at ho
  | cons d u =>
    simp [ok, hp, h] at ho
    exact ⟨d, u, rfl, ho.1, ho.2⟩
theorem ok_rest (c : UInt8) (t : List UInt8) (h : c.toNat ≠ 195) (ho : ok (c :: t) = true) : ok t = true := by
  by_cases hp : plain c = true
  · cases t with
    | nil => simp [ok]
    | cons d u => simpa [ok, hp] using ho
  · cases t <;> simp [ok, hp, h] at ho
theorem one_upper (c : UInt8) (h1 : 65 ≤ (c.toNat : Int)) (h2 : (c.toNat : Int) ≤ 90) : one c = [c + 32] := by
  have : upper c = true := by simp [upper]; omega
  simp [one, this]
theorem add32 (c : UInt8) (h1 : 65 ≤ (c.toNat : Int)) (h2 : (c.toNat : Int) ≤ 90) : (c + 32).toNat = c.toNat + 32 := by
  rw [UInt8.toNat_add]
  have : (32 : UInt8).toNat = 32 := rfl
  omega
theorem one_same (c : UInt8) (h : lower c = true ∨ (48 ≤ (c.toNat : Int) ∧ (c.toNat : Int) ≤ 57)) : one c = [c] := by
  have hu : upper c = false := by
    rcases h with h | h
    · simp [lower] at h; simp [upper]; omega
    · simp [upper]; omega
  have hd : (lower c || digit c) = true := by
    rcases h with h | h
    · simp [h]
    · simp [digit]; right; omega
  simp only [one, hu, hd, if_true, Bool.false_eq_true, if_false]
theorem one_quote (c : UInt8) (h : (c.toNat : Int) = 39) : one c = [] := by
  have hu : upper c = false := by simp [upper]; omega
  have hd : (lower c || digit c) = false := by simp [lower, digit]; omega
  simp only [one, hu, hd, Bool.false_eq_true, if_false]
  rw [if_pos (by omega)]
theorem one_sep (c : UInt8) (h0 : (c.toNat : Int) < 65 ∨ 90 < (c.toNat : Int)) (h1 : lower c = false) (h2 : (c.toNat : Int) < 48 ∨ 57 < (c.toNat : Int)) (h : ¬ (c.toNat : Int) = 39) : one c = [32] := by
  have hu : upper c = false := by simp [upper]; omega
  have hd : (lower c || digit c) = false := by simp [h1, digit]; omega
  simp only [one, hu, hd, Bool.false_eq_true, if_false]
  rw [if_neg (by omega)]
end Go.Proofs.Ytfcnodiepdnegaa.TM
