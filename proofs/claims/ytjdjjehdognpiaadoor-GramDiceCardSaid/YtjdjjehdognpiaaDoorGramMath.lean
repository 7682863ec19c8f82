/- Sets of texts as lists: ascending, each once; grams of texts. No program. -/
import Derived.Test.YtjdjjehdognpiaaDoorLawMath
import Derived.Sort.KeysCollected
namespace Go.Proofs.YtjdjjehdognpiaaDoor.GM

/-- A text put into an ascending list, each once. -/
def ins (x : List UInt8) : List (List UInt8) → List (List UInt8)
  | [] => [x]
  | y :: t => if y < x then y :: ins x t else if y = x then y :: t else x :: y :: t
def setL (l : List (List UInt8)) : List (List UInt8) := l.foldl (fun out x => ins x out) []
def asc (l : List (List UInt8)) : Prop := l.Pairwise (· < ·)

theorem lt_irr (x : List UInt8) : ¬ x < x := List.lt_irrefl x
theorem lt_tr {x y z : List UInt8} (h : x < y) (h' : y < z) : x < z := List.lt_trans h h'
theorem lt_of_not {x y : List UInt8} (h : ¬ y < x) (hn : y ≠ x) : x < y := by
  rcases Decidable.em (x < y) with h' | h'
  · exact h'
  · exact absurd (List.le_antisymm (show y ≤ x from h') (show x ≤ y from h)) hn

theorem mem_ins (x z : List UInt8) : ∀ l, z ∈ ins x l ↔ z = x ∨ z ∈ l
  | [] => by simp [ins]
  | y :: t => by
    unfold ins
    split
    · rw [List.mem_cons, mem_ins x z t, List.mem_cons]; constructor <;> (intro h; rcases h with h | h | h <;> simp [h])
    · split
      · rename_i h; subst h; simp
      · simp
theorem asc_ins (x : List UInt8) : ∀ l, asc l → asc (ins x l)
  | [], _ => by simp [ins, asc]
  | y :: t, h => by
    obtain ⟨h1, h2⟩ := List.pairwise_cons.1 h
    unfold ins
    split
    · rename_i hlt
      refine List.pairwise_cons.2 ⟨fun z hz => ?_, asc_ins x t h2⟩
      rcases (mem_ins x z t).1 hz with rfl | hz
      · exact hlt
      · exact h1 z hz
    · split
      · exact h
      · rename_i h3 h4
        have hxy := lt_of_not h3 h4
        refine List.pairwise_cons.2 ⟨fun z hz => ?_, h⟩
        rcases List.mem_cons.1 hz with rfl | hz
        · exact hxy
        · exact lt_tr hxy (h1 z hz)
theorem mem_fold (z : List UInt8) : ∀ (l acc : List (List UInt8)), z ∈ l.foldl (fun out x => ins x out) acc ↔ z ∈ acc ∨ z ∈ l
  | [], acc => by simp
  | x :: t, acc => by
    rw [List.foldl_cons, mem_fold z t, mem_ins, List.mem_cons]
    constructor
    · rintro ((h | h) | h)
      · exact .inr (.inl h)
      · exact .inl h
      · exact .inr (.inr h)
    · rintro (h | h | h)
      · exact .inl (.inr h)
      · exact .inl (.inl h)
      · exact .inr h
theorem asc_fold : ∀ (l acc : List (List UInt8)), asc acc → asc (l.foldl (fun out x => ins x out) acc)
  | [], _, h => h
  | x :: t, acc, h => by rw [List.foldl_cons]; exact asc_fold t _ (asc_ins x acc h)
theorem mem_setL {z : List UInt8} {l : List (List UInt8)} : z ∈ setL l ↔ z ∈ l := by unfold setL; rw [mem_fold]; simp
theorem asc_setL (l : List (List UInt8)) : asc (setL l) := asc_fold l [] List.Pairwise.nil
theorem asc_nodup {l : List (List UInt8)} (h : asc l) : l.Nodup := List.Pairwise.imp (R := (· < ·)) (S := (· ≠ ·)) (fun {a b} (h : a < b) (e : a = b) => lt_irr b (by rw [e] at h; exact h)) h
theorem nodup_setL (l : List (List UInt8)) : (setL l).Nodup := asc_nodup (asc_setL l)
theorem asc_ext {a b : List (List UInt8)} (ha : asc a) (hb : asc b) (h : ∀ z, z ∈ a ↔ z ∈ b) : a = b :=
  List.Perm.eq_of_pairwise (le := (· < ·)) (fun x _ _ _ h1 h2 => absurd (lt_tr h1 h2) (lt_irr x)) ha hb ((List.perm_ext_iff_of_nodup (asc_nodup ha) (asc_nodup hb)).2 h)
theorem setL_of_asc {a l : List (List UInt8)} (ha : asc a) (h : ∀ z, z ∈ a ↔ z ∈ l) : setL l = a := asc_ext (asc_setL l) ha fun z => by rw [mem_setL, h z]
theorem setL_self {a : List (List UInt8)} (ha : asc a) : setL a = a := setL_of_asc ha fun _ => Iff.rfl
theorem setL_ext {a b : List (List UInt8)} (h : ∀ z, z ∈ a ↔ z ∈ b) : setL a = setL b := asc_ext (asc_setL a) (asc_setL b) fun z => by rw [mem_setL, mem_setL, h z]
theorem setL_perm {ss l : List (List UInt8)} (hn : ss.Nodup) (h : ∀ z, z ∈ ss ↔ z ∈ l) : ss.Perm (setL l) :=
  (List.perm_ext_iff_of_nodup hn (nodup_setL l)).2 fun z => by rw [h z, mem_setL]
/-- What the library's sort makes of the elements of a set. -/
theorem sort_setL {ss l : List (List UInt8)} (h : ss.Perm (setL l)) : ss.mergeSort (fun x y => decide (x ≤ y)) = setL l := by
  rw [mergeSort_of_perm h]
  refine List.mergeSort_of_pairwise ?_
  refine (asc_setL l).imp fun {a b} hlt => ?_
  simp only [leB, decide_eq_true_eq]
  exact List.le_of_lt hlt
theorem length_ins (x : List UInt8) : ∀ l, (ins x l).length ≤ l.length + 1
  | [] => by simp [ins]
  | y :: t => by
    have := length_ins x t
    unfold ins
    split
    · simp; omega
    · split <;> simp
theorem length_fold : ∀ (l acc : List (List UInt8)), (l.foldl (fun out x => ins x out) acc).length ≤ acc.length + l.length
  | [], acc => by simp
  | x :: t, acc => by
    have h1 := length_fold t (ins x acc)
    have h2 := length_ins x acc
    rw [List.foldl_cons]
    simp only [List.length_cons]
    omega
theorem length_setL (l : List (List UInt8)) : (setL l).length ≤ l.length := by
  have := length_fold l []
  unfold setL
  simpa using this
theorem setL_snoc (l : List (List UInt8)) (x : List UInt8) : setL (l ++ [x]) = ins x (setL l) := by unfold setL; simp

/-- The place at which a text is put in. -/
theorem ins_at (x : List UInt8) : ∀ (out : List (List UInt8)) (k : Nat), k ≤ out.length → (∀ j, j < k → ∀ h : j < out.length, out[j] < x) → ins x out = out.take k ++ ins x (out.drop k)
  | out, 0, _, _ => by simp
  | [], k + 1, h, _ => by simp at h
  | y :: t, k + 1, h, hl => by
    have h0 := hl 0 (by omega) (by simp)
    have ih := ins_at x t k (by simpa using h) (fun j hj hjt => by have := hl (j + 1) (by omega) (by simp; omega); simpa using this)
    simp only [List.getElem_cons_zero] at h0
    rw [ins, if_pos h0, ih]
    simp
theorem ins_end (x : List UInt8) (out : List (List UInt8)) (hl : ∀ j, ∀ h : j < out.length, out[j] < x) : ins x out = out ++ [x] := by
  have := ins_at x out out.length (Nat.le_refl _) (fun j _ h => hl j h)
  rw [this]
  simp [ins]
theorem ins_same (x : List UInt8) (out : List (List UInt8)) (k : Nat) (hk : k < out.length) (hl : ∀ j, j < k → ∀ h : j < out.length, out[j] < x) (e : out[k] = x) : ins x out = out := by
  rw [ins_at x out k (by omega) hl, List.drop_eq_getElem_cons hk, ins, if_neg (by rw [e]; exact lt_irr x), if_pos e, ← List.drop_eq_getElem_cons hk, List.take_append_drop]
theorem ins_mid (x : List UInt8) (out : List (List UInt8)) (k : Nat) (hk : k < out.length) (hl : ∀ j, j < k → ∀ h : j < out.length, out[j] < x) (h1 : ¬ out[k] < x) (h2 : out[k] ≠ x) : ins x out = out.take k ++ [x] ++ out.drop k := by
  rw [ins_at x out k (by omega) hl, List.drop_eq_getElem_cons hk, ins, if_neg h1, if_neg h2]
  simp

/-- How many elements of one list are in another one. -/
def cnt (x y : List (List UInt8)) : Nat := (x.filter (fun z => decide (z ∈ y))).length
def commonN (a b : List (List UInt8)) : Nat := cnt (setL a) (setL b)
def diceN (a b : List (List UInt8)) : Nat :=
  if (setL a).length + (setL b).length = 0 then 0 else (2 * (2000 * commonN a b) + ((setL a).length + (setL b).length)) / (2 * ((setL a).length + (setL b).length))

theorem cnt_le (x y : List (List UInt8)) : cnt x y ≤ x.length := List.length_filter_le _ _
theorem common_le (a b : List (List UInt8)) : commonN a b ≤ (setL a).length := cnt_le _ _
theorem asc_filter {l : List (List UInt8)} (h : asc l) (p : List UInt8 → Bool) : asc (l.filter p) := h.filter p
theorem common_comm (a b : List (List UInt8)) : commonN a b = commonN b a := by
  unfold commonN cnt
  rw [asc_ext (a := (setL a).filter (fun z => decide (z ∈ setL b))) (b := (setL b).filter (fun z => decide (z ∈ setL a))) (asc_filter (asc_setL a) _) (asc_filter (asc_setL b) _) (fun z => by simp only [List.mem_filter, decide_eq_true_eq]; exact And.comm)]
theorem common_le' (a b : List (List UInt8)) : commonN a b ≤ (setL b).length := by rw [common_comm]; exact common_le b a
theorem dice_comm (a b : List (List UInt8)) : diceN a b = diceN b a := by
  unfold diceN
  rw [common_comm, Nat.add_comm]
theorem common_self (a : List (List UInt8)) : commonN a a = (setL a).length := by
  unfold commonN cnt
  rw [List.filter_eq_self.2 (fun z hz => by simpa using hz)]
/-- As many in common as both have: equal sets. -/
theorem common_all {a b : List (List UInt8)} (h : commonN a b = (setL a).length) (h' : commonN a b = (setL b).length) : setL a = setL b := by
  have h1 : (setL a).filter (fun z => decide (z ∈ setL b)) = setL a := List.filter_sublist.eq_of_length h
  rw [common_comm] at h'
  have h2 : (setL b).filter (fun z => decide (z ∈ setL a)) = setL b := List.filter_sublist.eq_of_length h'
  refine asc_ext (asc_setL a) (asc_setL b) fun z => ⟨fun hz => ?_, fun hz => ?_⟩
  · rw [← h1] at hz; simpa using (List.mem_filter.1 hz).2
  · rw [← h2] at hz; simpa using (List.mem_filter.1 hz).2
theorem dice_le (a b : List (List UInt8)) : diceN a b ≤ 1000 := by
  unfold diceN
  split
  · omega
  · have h1 := common_le a b
    have h2 := common_le' a b
    generalize commonN a b = c at *
    generalize (setL a).length = x at *
    generalize (setL b).length = y at *
    refine Nat.le_of_lt_succ ((Nat.div_lt_iff_lt_mul (by omega)).2 ?_)
    omega
/-- Short lists: 1000 just for equal sets. -/
theorem dice_full {a b : List (List UInt8)} (ha : setL a ≠ []) (hs : (setL a).length + (setL b).length < 1000) : diceN a b = 1000 ↔ setL a = setL b := by
  have h0 : 0 < (setL a).length := List.length_pos_iff.2 ha
  constructor
  · intro h
    unfold diceN at h
    rw [if_neg (by omega)] at h
    have h1 := common_le a b
    have h2 := common_le' a b
    have h3 := Nat.div_mul_le_self (2 * (2000 * commonN a b) + ((setL a).length + (setL b).length)) (2 * ((setL a).length + (setL b).length))
    rw [h] at h3
    refine common_all ?_ ?_
    · generalize commonN a b = c at *
      generalize (setL a).length = x at *
      generalize (setL b).length = y at *
      omega
    · generalize commonN a b = c at *
      generalize (setL a).length = x at *
      generalize (setL b).length = y at *
      omega
  · intro h
    unfold diceN commonN cnt
    rw [← h, List.filter_eq_self.2 (fun z hz => by simpa using hz), if_neg (by omega)]
    generalize (setL a).length = x at *
    have : 2 * (2000 * x) + (x + x) = x + x + 2 * (x + x) * 1000 := by omega
    rw [this, Nat.add_mul_div_left _ _ (by omega), Nat.div_eq_of_lt (by omega)]

/-- The bigrams of a text, in their order. -/
def bigr : List UInt8 → List (List UInt8)
  | a :: b :: t => [a, b] :: bigr (b :: t)
  | _ => []
def gramsRaw (ws : List (List UInt8)) : List (List UInt8) := ws.flatMap fun t => bigr (95 :: t ++ [95])
def gramsL (s : List UInt8) : List (List UInt8) := if 64 < s.length then [] else setL (gramsRaw (TM.words [] s))
def posAt : Nat → List UInt8 → List (List UInt8)
  | _, [] => []
  | i, c :: t => [UInt8.ofNat (97 + i), c] :: posAt (i + 1) t
def posL (s : List UInt8) : List (List UInt8) := if 26 < s.length then [] else posAt 0 s

theorem bigr_cons (a b : UInt8) (t : List UInt8) : bigr (a :: b :: t) = [a, b] :: bigr (b :: t) := rfl
theorem bigr_length : ∀ s : List UInt8, (bigr s).length = s.length - 1
  | [] => rfl
  | [_] => rfl
  | a :: b :: t => by rw [bigr_cons, List.length_cons, bigr_length (b :: t)]; simp
theorem bigr_get : ∀ (s : List UInt8) (i : Nat) (h : i < (bigr s).length), (bigr s)[i] = (s.drop i).take 2
  | [], i, h => by simp [bigr] at h
  | [_], i, h => by simp [bigr] at h
  | a :: b :: t, 0, _ => by simp [bigr]
  | a :: b :: t, i + 1, h => by
    have := bigr_get (b :: t) i (by rw [bigr_cons] at h; simpa using h)
    simp only [bigr_cons, List.getElem_cons_succ, List.drop_succ_cons]
    exact this
theorem bigr_take (s : List UInt8) (i : Nat) (h : i + 1 < s.length) : (bigr s).take (i + 1) = (bigr s).take i ++ [(s.drop i).take 2] := by
  have hl : i < (bigr s).length := by rw [bigr_length]; omega
  rw [List.take_succ_eq_append_getElem hl, bigr_get]
theorem bigr_all (s : List UInt8) (i : Nat) (h : s.length ≤ i + 1) : (bigr s).take i = bigr s := List.take_of_length_le (by rw [bigr_length]; omega)
theorem bigr_two : ∀ (s : List UInt8), ∀ z ∈ bigr s, z.length = 2
  | [], z, h => by simp [bigr] at h
  | [_], z, h => by simp [bigr] at h
  | a :: b :: t, z, h => by
    rw [bigr_cons] at h
    rcases List.mem_cons.1 h with rfl | h
    · rfl
    · exact bigr_two (b :: t) z h
theorem mem_bigr : ∀ {s : List UInt8} {z : List UInt8}, z ∈ bigr s ↔ ∃ u v a b, s = u ++ a :: b :: v ∧ z = [a, b]
  | [], z => by simp [bigr]
  | [x], z => by
    simp only [bigr, List.not_mem_nil, false_iff]
    rintro ⟨u, v, a, b, h, -⟩
    have := congrArg List.length h
    simp at this
    omega
  | x :: y :: t, z => by
    rw [bigr_cons, List.mem_cons, mem_bigr]
    constructor
    · rintro (rfl | ⟨u, v, a, b, h, rfl⟩)
      · exact ⟨[], t, x, y, rfl, rfl⟩
      · exact ⟨x :: u, v, a, b, by rw [h]; rfl, rfl⟩
    · rintro ⟨u, v, a, b, h, rfl⟩
      cases u with
      | nil =>
        simp only [List.nil_append, List.cons.injEq] at h
        obtain ⟨rfl, rfl, rfl⟩ := h
        exact .inl rfl
      | cons c u =>
        simp only [List.cons_append, List.cons.injEq] at h
        exact .inr ⟨u, v, a, b, h.2, rfl⟩
theorem bigr_left {s : List UInt8} (r : List UInt8) {z : List UInt8} (h : z ∈ bigr s) : z ∈ bigr (s ++ r) := by
  obtain ⟨u, v, a, b, rfl, rfl⟩ := mem_bigr.1 h
  exact mem_bigr.2 ⟨u, v ++ r, a, b, by simp, rfl⟩
theorem bigr_right {s : List UInt8} (r : List UInt8) {z : List UInt8} (h : z ∈ bigr s) : z ∈ bigr (r ++ s) := by
  obtain ⟨u, v, a, b, rfl, rfl⟩ := mem_bigr.1 h
  exact mem_bigr.2 ⟨r ++ u, v, a, b, by simp, rfl⟩
theorem bigr_append : ∀ (p : List UInt8) (c : UInt8) (q : List UInt8), bigr (p ++ c :: q) = bigr (p ++ [c]) ++ bigr (c :: q)
  | [], c, q => by simp [bigr]
  | [x], c, q => by simp [bigr]
  | x :: y :: t, c, q => by
    have := bigr_append (y :: t) c q
    simp only [List.cons_append, bigr_cons] at this ⊢
    rw [this]
/-- A bigram of a text lies ahead of a byte, behind it, or holds it. -/
theorem bigr_split (p : List UInt8) (l c h : UInt8) (q : List UInt8) {z : List UInt8} (hz : z ∈ bigr (p ++ [l] ++ c :: h :: q)) : z ∈ bigr (p ++ [l]) ∨ z = [l, c] ∨ z = [c, h] ∨ z ∈ bigr (h :: q) := by
  rw [bigr_append, List.mem_append] at hz
  rcases hz with hz | hz
  · rw [List.append_assoc] at hz
    have e : p ++ ([l] ++ [c]) = p ++ l :: [c] := rfl
    rw [e, bigr_append, List.mem_append] at hz
    rcases hz with hz | hz
    · exact .inl hz
    · simp [bigr] at hz; exact .inr (.inl hz)
  · rw [bigr_cons, List.mem_cons] at hz
    rcases hz with hz | hz
    · exact .inr (.inr (.inl hz))
    · exact .inr (.inr (.inr hz))

theorem raw_two (ws : List (List UInt8)) : ∀ z ∈ gramsRaw ws, z.length = 2 := by
  intro z hz
  unfold gramsRaw at hz
  obtain ⟨t, _, ht⟩ := List.mem_flatMap.1 hz
  exact bigr_two _ z ht
theorem raw_length : ∀ (ws : List (List UInt8)) , (gramsRaw ws).length = (ws.map (fun t => t.length + 1)).sum
  | [] => rfl
  | t :: ws => by
    have := raw_length ws
    unfold gramsRaw at this ⊢
    rw [List.flatMap_cons, List.length_append, this, bigr_length]
    simp
theorem raw_take (ws : List (List UInt8)) (k : Nat) (h : k < ws.length) : gramsRaw (ws.take (k + 1)) = gramsRaw (ws.take k) ++ bigr (95 :: ws[k] ++ [95]) := by
  unfold gramsRaw
  rw [List.take_succ_eq_append_getElem h, List.flatMap_append]
  simp
theorem words_sum (m : List UInt8) : ∀ p, ((TM.words p m).map (fun t => t.length + 1)).sum ≤ p.length + m.length + 1 := by
  induction m with
  | nil => intro p; by_cases hp : p = [] <;> simp [TM.words, hp]
  | cons c t ih =>
    intro p
    by_cases hc : c.toNat = 32
    · by_cases hp : p = []
      · have := ih []
        simp [TM.words, hc, hp] at this ⊢
        omega
      · have := ih []
        simp [TM.words, hc, hp] at this ⊢
        omega
    · have := ih (p ++ [c])
      simp [TM.words, hc] at this ⊢
      omega
theorem raw_le (s : List UInt8) : (gramsRaw (TM.words [] s)).length ≤ s.length + 1 := by
  have := words_sum s []
  rw [raw_length]
  simpa using this
theorem raw_take_le (ws : List (List UInt8)) (k : Nat) : (gramsRaw (ws.take k)).length ≤ (gramsRaw ws).length := by
  have h : gramsRaw ws = gramsRaw (ws.take k) ++ gramsRaw (ws.drop k) := by
    unfold gramsRaw
    rw [← List.flatMap_append, List.take_append_drop]
  rw [h, List.length_append]
  omega
theorem grams_le (s : List UInt8) : (gramsL s).length ≤ 65 := by
  unfold gramsL
  split
  · simp
  · have h1 := length_setL (gramsRaw (TM.words [] s))
    have h2 := raw_le s
    omega
theorem grams_two (s : List UInt8) : ∀ z ∈ gramsL s, z.length = 2 := by
  intro z hz
  unfold gramsL at hz
  split at hz
  · simp at hz
  · exact raw_two _ z (mem_setL.1 hz)
theorem asc_grams (s : List UInt8) : asc (gramsL s) := by
  unfold gramsL
  split
  · exact List.Pairwise.nil
  · exact asc_setL _
theorem setL_grams (s : List UInt8) : setL (gramsL s) = gramsL s := setL_self (asc_grams s)

/-! ### letters with their places -/
theorem posAt_length : ∀ (s : List UInt8) (i : Nat), (posAt i s).length = s.length
  | [], _ => rfl
  | c :: t, i => by simp [posAt, posAt_length t (i + 1)]
theorem posAt_get : ∀ (s : List UInt8) (i k : Nat) (h : k < s.length), (posAt i s)[k]? = some [UInt8.ofNat (97 + (i + k)), s[k]]
  | [], _, _, h => by simp at h
  | c :: t, i, 0, _ => by simp [posAt]
  | c :: t, i, k + 1, h => by
    have := posAt_get t (i + 1) k (by simpa using h)
    simp only [posAt, List.getElem?_cons_succ, List.getElem_cons_succ]
    rw [this]
    have e : 97 + (i + 1 + k) = 97 + (i + (k + 1)) := by omega
    rw [e]
theorem posAt_take (s : List UInt8) (k : Nat) (h : k < s.length) : (posAt 0 s).take (k + 1) = (posAt 0 s).take k ++ [[UInt8.ofNat (97 + k), s[k]]] := by
  have hl : k < (posAt 0 s).length := by rw [posAt_length]; exact h
  have hg := posAt_get s 0 k h
  rw [List.getElem?_eq_getElem hl, Option.some.injEq] at hg
  rw [List.take_succ_eq_append_getElem hl, hg, Nat.zero_add]
theorem asc_posAt : ∀ (s : List UInt8) (i : Nat), i + s.length ≤ 150 → asc (posAt i s)
  | [], _, _ => List.Pairwise.nil
  | c :: t, i, h => by
    simp only [List.length_cons] at h
    refine List.pairwise_cons.2 ⟨fun z hz => ?_, asc_posAt t (i + 1) (by omega)⟩
    obtain ⟨k, hk, e⟩ := List.getElem_of_mem hz
    have hkt : k < t.length := by rw [posAt_length] at hk; exact hk
    have hg := posAt_get t (i + 1) k hkt
    rw [List.getElem?_eq_getElem hk, e, Option.some.injEq] at hg
    rw [hg]
    refine List.Lex.rel ?_
    rw [UInt8.lt_iff_toNat_lt, UInt8.toNat_ofNat', UInt8.toNat_ofNat']
    omega
theorem asc_pos (s : List UInt8) : asc (posL s) := by
  unfold posL
  split
  · exact List.Pairwise.nil
  · exact asc_posAt s 0 (by omega)
theorem setL_pos (s : List UInt8) : setL (posL s) = posL s := setL_self (asc_pos s)
theorem posAt_inj : ∀ (s t : List UInt8) (i : Nat), posAt i s = posAt i t → s = t
  | [], [], _, _ => rfl
  | [], _ :: _, _, h => by simp [posAt] at h
  | _ :: _, [], _, h => by simp [posAt] at h
  | c :: s, d :: t, i, h => by
    simp only [posAt, List.cons.injEq, and_true, true_and] at h
    rw [h.1, posAt_inj s t (i + 1) h.2]
theorem pos_length {s : List UInt8} (h : s.length ≤ 26) : (posL s).length = s.length := by
  unfold posL
  rw [if_neg (by omega), posAt_length]
theorem pos_inj {s t : List UInt8} (hs : s.length ≤ 26) (ht : t.length ≤ 26) : posL s = posL t ↔ s = t := by
  unfold posL
  rw [if_neg (by omega), if_neg (by omega)]
  exact ⟨posAt_inj s t 0, fun h => by rw [h]⟩
theorem pos_two (s : List UInt8) : ∀ z ∈ posL s, z.length = 2 := by
  have : ∀ (s : List UInt8) (i : Nat), ∀ z ∈ posAt i s, z.length = 2 := by
    intro s
    induction s with
    | nil => intro i z hz; simp [posAt] at hz
    | cons c t ih =>
      intro i z hz
      simp only [posAt, List.mem_cons] at hz
      rcases hz with rfl | hz
      · rfl
      · exact ih _ z hz
  intro z hz
  unfold posL at hz
  split at hz
  · simp at hz
  · exact this s 0 z hz

/-! ### what the statements say of grams -/
theorem nodup_two {l : List (List UInt8)} (hn : l.Nodup) (u v : List UInt8) (h : ∀ z ∈ l, z = u ∨ z = v) : l.length ≤ 2 := by
  match l, hn, h with
  | [], _, _ => simp
  | [_], _, _ => simp
  | [_, _], _, _ => simp
  | a :: b :: c :: t, hn, h =>
    exfalso
    simp only [List.nodup_cons, List.mem_cons, not_or] at hn
    obtain ⟨⟨h1, h2, -⟩, ⟨h3, -⟩, -⟩ := hn
    rcases h a (by simp) with ha | ha <;> rcases h b (by simp) with hb | hb <;> rcases h c (by simp) with hc | hc
    · exact h1 (ha.trans hb.symm)
    · exact h1 (ha.trans hb.symm)
    · exact h2 (ha.trans hc.symm)
    · exact h3 (hb.trans hc.symm)
    · exact h3 (hb.trans hc.symm)
    · exact h2 (ha.trans hc.symm)
    · exact h1 (ha.trans hb.symm)
    · exact h1 (ha.trans hb.symm)
theorem filter_split (p : List UInt8 → Bool) : ∀ l : List (List UInt8), l.length = (l.filter p).length + (l.filter (fun z => !p z)).length
  | [] => rfl
  | x :: t => by
    have := filter_split p t
    cases h : p x <;> simp [h] <;> omega
/-- All but two are in common. -/
theorem common_two (a b : List (List UInt8)) (u v : List UInt8) (h : ∀ z ∈ a, z ∈ b ∨ z = u ∨ z = v) : (setL a).length ≤ commonN a b + 2 := by
  have h1 := filter_split (fun z => decide (z ∈ setL b)) (setL a)
  have h2 : ((setL a).filter (fun z => !decide (z ∈ setL b))).length ≤ 2 := by
    refine nodup_two (asc_nodup (asc_filter (asc_setL a) _)) u v fun z hz => ?_
    obtain ⟨hz1, hz2⟩ := List.mem_filter.1 hz
    rcases h z (mem_setL.1 hz1) with h' | h'
    · exfalso
      have : z ∈ setL b := mem_setL.2 h'
      simp [this] at hz2
    · exact h'
  unfold commonN cnt
  omega
theorem words_one {t : List UInt8} (h : TM.word t) : TM.words [] t = [t] := by
  have := TM.words_free t h.2 [] []
  simp only [List.append_nil, List.nil_append] at this
  simp [this, TM.words, h.1]
theorem grams_one {t : List UInt8} (h : TM.word t) (hl : t.length ≤ 64) : gramsL t = setL (bigr (95 :: t ++ [95])) := by
  unfold gramsL
  rw [if_neg (by omega), words_one h]
  simp [gramsRaw]
/-- A byte that is changed, put in or left out costs at most two bigrams. -/
theorem change_two (p : List UInt8) (c : UInt8) (q r : List UInt8) (hr : r = p ++ q ∨ (∃ x, r = p ++ x :: q) ∨ (∃ x, r = p ++ x :: c :: q)) (h1 : TM.word (p ++ c :: q)) (h2 : TM.word r) (hl1 : (p ++ c :: q).length ≤ 64) (hl2 : r.length ≤ 64) :
    (gramsL (p ++ c :: q)).length ≤ commonN (gramsL (p ++ c :: q)) (gramsL r) + 2 := by
  -- the byte ahead, the byte behind
  obtain ⟨P, l, hP⟩ : ∃ P l, 95 :: p = P ++ [l] := by
    rcases List.eq_nil_or_concat (95 :: p) with h | ⟨P, l, h⟩
    · cases h
    · exact ⟨P, l, by rw [h]; simp⟩
  obtain ⟨h, Q, hQ⟩ : ∃ h Q, q ++ [95] = h :: Q := by
    cases e : q ++ [95] with
    | nil => simp at e
    | cons h Q => exact ⟨h, Q, rfl⟩
  have e1 : (95 : UInt8) :: (p ++ c :: q) ++ [95] = P ++ [l] ++ c :: h :: Q := by
    rw [← hP]; simp [hQ]
  have hall : ∀ z ∈ gramsL (p ++ c :: q), z ∈ gramsL r ∨ z = [l, c] ∨ z = [c, h] := by
    intro z hz
    rw [grams_one h1 hl1, mem_setL, e1] at hz
    rw [grams_one h2 hl2, mem_setL]
    have key : z ∈ bigr (95 :: p) ∨ z ∈ bigr (q ++ [95]) → z ∈ bigr (95 :: r ++ [95]) := by
      rintro (hz | hz)
      · have : ∃ R, (95 : UInt8) :: r ++ [95] = (95 :: p) ++ R := by
          rcases hr with rfl | ⟨x, rfl⟩ | ⟨x, rfl⟩
          · exact ⟨q ++ [95], by simp⟩
          · exact ⟨x :: q ++ [95], by simp⟩
          · exact ⟨x :: c :: q ++ [95], by simp⟩
        obtain ⟨R, e⟩ := this
        rw [e]
        exact bigr_left R hz
      · have : ∃ R, (95 : UInt8) :: r ++ [95] = R ++ (q ++ [95]) := by
          rcases hr with rfl | ⟨x, rfl⟩ | ⟨x, rfl⟩
          · exact ⟨95 :: p, by simp⟩
          · exact ⟨95 :: (p ++ [x]), by simp⟩
          · exact ⟨95 :: (p ++ [x, c]), by simp⟩
        obtain ⟨R, e⟩ := this
        rw [e]
        exact bigr_right R hz
    rcases bigr_split P l c h Q hz with hz | hz | hz | hz
    · exact .inl (key (.inl (by rw [hP]; exact hz)))
    · exact .inr (.inl hz)
    · exact .inr (.inr hz)
    · exact .inl (key (.inr (by rw [hQ]; exact hz)))
  have := common_two (gramsL (p ++ c :: q)) (gramsL r) [l, c] [c, h] hall
  rw [setL_grams] at this
  exact this
theorem words_two_all {a b : List UInt8} (ha : TM.word a) (hb : TM.word b) : TM.words [] (a ++ 32 :: b) = [a, b] := by
  have h32 : (32 : UInt8).toNat = 32 := rfl
  rw [TM.words_free a ha.2, List.nil_append]
  simp only [TM.words, h32, if_true, ha.1, if_false]
  rw [words_one hb]
theorem words_three {a b c : List UInt8} (ha : TM.word a) (hb : TM.word b) (hc : TM.word c) : TM.words [] (a ++ 32 :: (b ++ 32 :: c)) = [a, b, c] := by
  have h32 : (32 : UInt8).toNat = 32 := rfl
  rw [TM.words_free a ha.2, List.nil_append]
  simp only [TM.words, h32, if_true, ha.1, if_false]
  rw [words_two_all hb hc]
theorem raw_append (a b : List (List UInt8)) : gramsRaw (a ++ b) = gramsRaw a ++ gramsRaw b := by unfold gramsRaw; simp
theorem grams_swap {a b : List UInt8} (ha : TM.word a) (hb : TM.word b) (hl : a.length + b.length ≤ 30) :
    gramsL (a ++ 32 :: b) = gramsL (b ++ 32 :: a) ∧ gramsL (a ++ 32 :: b) = gramsL (a ++ 32 :: (b ++ 32 :: a)) ∧ gramsL (a ++ 32 :: b) = setL (gramsL a ++ gramsL b) := by
  have e1 : gramsL (a ++ 32 :: b) = setL (gramsRaw [a, b]) := by unfold gramsL; rw [if_neg (by simp; omega), words_two_all ha hb]
  have e2 : gramsL (b ++ 32 :: a) = setL (gramsRaw [b, a]) := by unfold gramsL; rw [if_neg (by simp; omega), words_two_all hb ha]
  have e3 : gramsL (a ++ 32 :: (b ++ 32 :: a)) = setL (gramsRaw [a, b, a]) := by unfold gramsL; rw [if_neg (by simp; omega), words_three ha hb ha]
  have e4 : gramsL a = setL (gramsRaw [a]) := by unfold gramsL; rw [if_neg (by omega), words_one ha]
  have e5 : gramsL b = setL (gramsRaw [b]) := by unfold gramsL; rw [if_neg (by omega), words_one hb]
  rw [e1, e2, e3, e4, e5]
  refine ⟨setL_ext fun z => ?_, setL_ext fun z => ?_, setL_ext fun z => ?_⟩
  · simp [gramsRaw, or_comm]
  · simp only [gramsRaw, List.flatMap_cons, List.flatMap_nil, List.append_nil, List.mem_append]
    constructor
    · rintro (h | h)
      · exact .inl h
      · exact .inr (.inl h)
    · rintro (h | h | h)
      · exact .inl h
      · exact .inr h
      · exact .inl h
  · rw [List.mem_append, mem_setL, mem_setL]
    simp [gramsRaw]
end Go.Proofs.YtjdjjehdognpiaaDoor.GM
