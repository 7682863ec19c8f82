/- Layer 7 in plain lists: changes, ordered lists of them, what they make of a text, that no list is shorter than the distance, and the script that is found from the end. No Go in sight. -/
import Derived.Test.YtgokinfejbefjaaDoorDistMath
namespace Go.Proofs.YtgokinfejbefjaaDoor.DM
set_option maxRecDepth 100000

/-- A change: kind (1 put in, 2 left out, 3 replaced, 4 exchanged), place, byte. -/
abbrev Ch := Int × Int × Int
/-- Whether a change may follow another one. -/
def after (p q : Ch) : Bool := if p.1 = 2 ∨ p.1 = 3 then decide (p.2.1 < q.2.1) else if p.1 = 4 then decide (p.2.1 + 1 < q.2.1) else decide (p.2.1 ≤ q.2.1)
def ord : List Ch → Bool
  | [] => true
  | [_] => true
  | p :: q :: t => after p q && ord (q :: t)
def right (n : Nat) (c : Ch) : Bool :=
  if c.1 = 1 then decide (0 ≤ c.2.1) && decide (c.2.1 ≤ n) && decide (0 ≤ c.2.2) && decide (c.2.2 ≤ 255)
  else if c.1 = 3 then decide (0 ≤ c.2.1) && decide (c.2.1 < n) && decide (0 ≤ c.2.2) && decide (c.2.2 ≤ 255)
  else if c.1 = 2 then decide (0 ≤ c.2.1) && decide (c.2.1 < n) && decide (c.2.2 = 0)
  else if c.1 = 4 then decide (0 ≤ c.2.1) && decide (c.2.1 + 1 < n) && decide (c.2.2 = 0) else false
/-- What is written so far, and the place of the text up to which it is read. -/
def step (a : List UInt8) (s : List UInt8 × Nat) (c : Ch) : List UInt8 × Nat :=
  let p := c.2.1.toNat
  let o := s.1 ++ (a.drop s.2).take (p - s.2)
  let y := UInt8.ofNat c.2.2.toNat
  if c.1 = 1 then (o ++ [y], p) else if c.1 = 3 then (o ++ [y], p + 1) else if c.1 = 2 then (o, p + 1) else (o ++ [a.getD (p + 1) 0, a.getD p 0], p + 2)
def fold (a : List UInt8) (s : List UInt8 × Nat) (l : List Ch) : List UInt8 × Nat := l.foldl (step a) s
/-- What a list of changes makes of a text. -/
def ap (a : List UInt8) (l : List Ch) : List UInt8 := (fold a ([], 0) l).1 ++ a.drop (fold a ([], 0) l).2

theorem right_cases {n : Nat} {c : Ch} (h : right n c = true) : (c.1 = 1 ∧ 0 ≤ c.2.1 ∧ c.2.1 ≤ n ∧ 0 ≤ c.2.2 ∧ c.2.2 ≤ 255) ∨ (c.1 = 3 ∧ 0 ≤ c.2.1 ∧ c.2.1 < n ∧ 0 ≤ c.2.2 ∧ c.2.2 ≤ 255) ∨ (c.1 = 2 ∧ 0 ≤ c.2.1 ∧ c.2.1 < n ∧ c.2.2 = 0) ∨
    (c.1 = 4 ∧ 0 ≤ c.2.1 ∧ c.2.1 + 1 < n ∧ c.2.2 = 0) := by
  unfold right at h
  split at h
  · simp at h; omega
  · split at h
    · simp at h; omega
    · split at h
      · simp at h; omega
      · split at h
        · simp at h; omega
        · simp at h

theorem take_parts (a : List UInt8) (m p q : Nat) (h1 : m ≤ p) (h2 : p ≤ q) : a.take q = a.take m ++ (a.drop m).take (p - m) ++ (a.drop p).take (q - p) := by
  have e1 : a.take p = a.take m ++ (a.drop m).take (p - m) := by
    rw [← List.take_append_drop m (a.take p), List.take_take, Nat.min_eq_left h1, List.drop_take]
  have e2 : a.take q = a.take p ++ (a.drop p).take (q - p) := by
    rw [← List.take_append_drop p (a.take q), List.take_take, Nat.min_eq_left h2, List.drop_take]
  rw [e2, e1]
theorem drop_one (a : List UInt8) (p : Nat) (h : p < a.length) : (a.drop p).take 1 = [a[p]] := by
  rw [List.drop_eq_getElem_cons h]; rfl
theorem drop_two (a : List UInt8) (p : Nat) (h : p + 1 < a.length) : (a.drop p).take 2 = [a[p]'(by omega), a[p + 1]] := by
  rw [List.drop_eq_getElem_cons (by omega), List.drop_eq_getElem_cons h]; rfl
theorem getD_is (a : List UInt8) (p : Nat) (h : p < a.length) : a.getD p 0 = a[p] := by
  rw [List.getD_eq_getElem?_getD, List.getElem?_eq_getElem h]; rfl

/-- A change costs one at most. -/
theorem step_cost (a : List UInt8) (o : List UInt8) (m j : Nat) (c : Ch) (hm : (m : Int) ≤ c.2.1) (hr : right a.length c = true) (hj : dist (a.take m) o ≤ j) :
    (step a (o, m) c).2 ≤ a.length ∧ dist (a.take (step a (o, m) c).2) (step a (o, m) c).1 ≤ j + 1 ∧ ∀ q : Ch, after c q = true → ((step a (o, m) c).2 : Int) ≤ q.2.1 := by
  have key : ∀ (p q : Nat) (new : List UInt8), m ≤ p → p ≤ q → dist ((a.drop p).take (q - p)) new ≤ 1 → dist (a.take q) (o ++ (a.drop m).take (p - m) ++ new) ≤ j + 1 := by
    intro p q new h1 h2 h3
    rw [take_parts a m p q h1 h2]
    have c1 := dist_cat (a.take m ++ (a.drop m).take (p - m)) (o ++ (a.drop m).take (p - m)) ((a.drop p).take (q - p)) new
    have c2 := dist_cat (a.take m) o ((a.drop m).take (p - m)) ((a.drop m).take (p - m))
    rw [dist_self] at c2
    omega
  have hmax : ∀ u v : List UInt8, u.length ≤ 1 → v.length ≤ 1 → dist u v ≤ 1 := by
    intro u v h1 h2
    have := dist_max u v
    omega
  obtain ⟨kind, at_, y⟩ := c
  simp only at hm
  rcases right_cases hr with ⟨rfl, h1, h2, h3, h4⟩ | ⟨rfl, h1, h2, h3, h4⟩ | ⟨rfl, h1, h2, h3⟩ | ⟨rfl, h1, h2, h3⟩
  · simp only [step, if_pos] at h1 h2 ⊢
    refine ⟨by omega, ?_, fun q hq => ?_⟩
    · refine key at_.toNat at_.toNat _ (by omega) (Nat.le_refl _) ?_
      rw [Nat.sub_self, List.take_zero]
      exact hmax _ _ (by simp) (by simp)
    · simp [after] at hq
      omega
  · simp only [step] at h1 h2 ⊢
    refine ⟨by simp; omega, ?_, fun q hq => ?_⟩
    · refine key at_.toNat (at_.toNat + 1) _ (by omega) (by omega) ?_
      exact hmax _ _ (by simp; omega) (by simp)
    · simp [after] at hq
      simp
      omega
  · simp only [step] at h1 h2 ⊢
    refine ⟨by simp; omega, ?_, fun q hq => ?_⟩
    · have := key at_.toNat (at_.toNat + 1) [] (by omega) (by omega) (hmax _ _ (by simp; omega) (by simp))
      simpa using this
    · simp [after] at hq
      simp
      omega
  · simp only [step] at h1 h2 ⊢
    refine ⟨by simp; omega, ?_, fun q hq => ?_⟩
    · refine key at_.toNat (at_.toNat + 2) _ (by omega) (by omega) ?_
      rw [Nat.add_sub_cancel_left, drop_two a at_.toNat (by omega), getD_is a _ (by omega), getD_is a _ (by omega)]
      have := up4 (a[at_.toNat + 1]'(by omega)) (a[at_.toNat]'(by omega)) [] []
      rw [d_nil] at this
      exact this
    · simp [after] at hq
      simp
      omega

theorem fold_cost (a : List UInt8) (l : List Ch) : ∀ (o : List UInt8) (m j : Nat), m ≤ a.length → ord l = true → l.all (right a.length) = true → (∀ q ∈ l.head?, (m : Int) ≤ q.2.1) → dist (a.take m) o ≤ j →
    (fold a (o, m) l).2 ≤ a.length ∧ dist (a.take (fold a (o, m) l).2) (fold a (o, m) l).1 ≤ j + l.length := by
  induction l with
  | nil => intro o m j h1 h2 h3 h4 h5; exact ⟨h1, h5⟩
  | cons c t ih =>
    intro o m j h1 h2 h3 h4 h5
    rw [List.all_cons, Bool.and_eq_true] at h3
    obtain ⟨s1, s2, s3⟩ := step_cost a o m j c (h4 c rfl) h3.1 h5
    have hord : ord t = true ∧ ∀ q ∈ t.head?, after c q = true := by
      cases t with
      | nil => exact ⟨rfl, fun q hq => by simp at hq⟩
      | cons q u =>
        rw [ord, Bool.and_eq_true] at h2
        refine ⟨h2.2, fun r hr => ?_⟩
        simp at hr
        rw [← hr]
        exact h2.1
    have := ih (step a (o, m) c).1 (step a (o, m) c).2 (j + 1) s1 hord.1 h3.2 (fun q hq => s3 q (hord.2 q hq)) s2
    have e : fold a (o, m) (c :: t) = fold a ((step a (o, m) c).1, (step a (o, m) c).2) t := rfl
    rw [e]
    refine ⟨this.1, ?_⟩
    have := this.2
    simp only [List.length_cons]
    omega
/-- No ordered list that leads from one text to another one is shorter than their distance. -/
theorem least (a : List UInt8) (l : List Ch) (h1 : ord l = true) (h2 : l.all (right a.length) = true) : dist a (ap a l) ≤ l.length := by
  have hh : ∀ q ∈ l.head?, ((0 : Nat) : Int) ≤ q.2.1 := by
    intro q hq
    cases l with
    | nil => simp at hq
    | cons c t =>
      simp at hq
      subst hq
      rw [List.all_cons, Bool.and_eq_true] at h2
      have := right_cases h2.1
      omega
  have h := fold_cost a l [] 0 0 (Nat.zero_le _) h1 h2 hh (by rw [List.take_zero, dist_self]; exact Nat.le_refl _)
  unfold ap
  have c := dist_cat (a.take (fold a ([], 0) l).2) (fold a ([], 0) l).1 (a.drop (fold a ([], 0) l).2) (a.drop (fold a ([], 0) l).2)
  rw [List.take_append_drop, dist_self] at c
  omega

/-- The script of two texts that are read from their ends. -/
def scr : List UInt8 → List UInt8 → List Ch
  | [], [] => []
  | [], y :: ys => scr [] ys ++ [(1, 0, (y.toNat : Int))]
  | _ :: xs, [] => scr xs [] ++ [(2, (xs.length : Int), 0)]
  | x :: xs, y :: ys =>
    if x = y then scr xs ys
    else if d (x :: xs) (y :: ys) = d xs ys + 1 then scr xs ys ++ [(3, (xs.length : Int), (y.toNat : Int))]
    else if d (x :: xs) (y :: ys) = d xs (y :: ys) + 1 then scr xs (y :: ys) ++ [(2, (xs.length : Int), 0)]
    else if d (x :: xs) (y :: ys) = d (x :: xs) ys + 1 then scr (x :: xs) ys ++ [(1, (xs.length : Int) + 1, (y.toNat : Int))]
    else scr xs.tail ys.tail ++ [(4, (xs.tail.length : Int), 0)]
termination_by xs ys => xs.length + ys.length
decreasing_by all_goals (simp_wf; first | done | omega | (simp; done) | (simp; omega))

/-- The five ways of a script. -/
theorem scr_ways (x : UInt8) (xs : List UInt8) (y : UInt8) (ys : List UInt8) :
    (x = y ∧ scr (x :: xs) (y :: ys) = scr xs ys ∧ d (x :: xs) (y :: ys) = d xs ys) ∨
    (scr (x :: xs) (y :: ys) = scr xs ys ++ [(3, (xs.length : Int), (y.toNat : Int))] ∧ d (x :: xs) (y :: ys) = d xs ys + 1) ∨
    (scr (x :: xs) (y :: ys) = scr xs (y :: ys) ++ [(2, (xs.length : Int), 0)] ∧ d (x :: xs) (y :: ys) = d xs (y :: ys) + 1) ∨
    (scr (x :: xs) (y :: ys) = scr (x :: xs) ys ++ [(1, (xs.length : Int) + 1, (y.toNat : Int))] ∧ d (x :: xs) (y :: ys) = d (x :: xs) ys + 1) ∨
    ∃ us vs, xs = y :: us ∧ ys = x :: vs ∧ scr (x :: xs) (y :: ys) = scr us vs ++ [(4, (us.length : Int), 0)] ∧ d (x :: xs) (y :: ys) = d us vs + 1 := by
  by_cases h1 : x = y
  · subst h1
    exact .inl ⟨rfl, by rw [scr, if_pos rfl], same x xs ys⟩
  · by_cases h2 : d (x :: xs) (y :: ys) = d xs ys + 1
    · exact .inr (.inl ⟨by rw [scr, if_neg h1, if_pos h2], h2⟩)
    · by_cases h3 : d (x :: xs) (y :: ys) = d xs (y :: ys) + 1
      · exact .inr (.inr (.inl ⟨by rw [scr, if_neg h1, if_neg h2, if_pos h3], h3⟩))
      · by_cases h4 : d (x :: xs) (y :: ys) = d (x :: xs) ys + 1
        · exact .inr (.inr (.inr (.inl ⟨by rw [scr, if_neg h1, if_neg h2, if_neg h3, if_pos h4], h4⟩)))
        · rcases low x xs y ys with e | e | e | ⟨us, vs, rfl, rfl, e⟩
          · rw [if_neg h1] at e
            exact absurd e h2
          · exact absurd e h3
          · exact absurd e h4
          · exact .inr (.inr (.inr (.inr ⟨us, vs, rfl, rfl, by rw [scr, if_neg h1, if_neg h2, if_neg h3, if_neg h4]; rfl, e⟩)))

theorem ord_snoc (l : List Ch) (c : Ch) (h : ord l = true) (hl : ∀ p ∈ l.getLast?, after p c = true) : ord (l ++ [c]) = true := by
  induction l with
  | nil => rfl
  | cons p t ih =>
    cases t with
    | nil =>
      show (after p c && true) = true
      rw [hl p rfl]
      rfl
    | cons q u =>
      rw [ord, Bool.and_eq_true] at h
      show (after p q && ord ((q :: u) ++ [c])) = true
      rw [h.1, ih h.2 (fun r hr => hl r (by simpa using hr))]
      rfl

/-- What holds of a script of the first i bytes of a text. -/
structure Fits (A : List UInt8) (i : Nat) (ys : List UInt8) (l : List Ch) : Prop where
  at_ : (fold A ([], 0) l).2 ≤ i
  text : (fold A ([], 0) l).1 ++ (A.drop (fold A ([], 0) l).2).take (i - (fold A ([], 0) l).2) = ys.reverse
  ord_ : ord l = true
  right_ : l.all (right A.length) = true
  last : ∀ q : Ch, (i : Int) ≤ q.2.1 → ∀ c ∈ l.getLast?, after c q = true

theorem fold_snoc (A : List UInt8) (l : List Ch) (c : Ch) : fold A ([], 0) (l ++ [c]) = step A (fold A ([], 0) l) c := by
  unfold fold
  rw [List.foldl_append]
  rfl
theorem byte_back (y : UInt8) : UInt8.ofNat ((y.toNat : Int).toNat) = y := by simp

theorem Fits.same {A : List UInt8} {i : Nat} {ys : List UInt8} {l : List Ch} (h : Fits A i ys l) (hi : i < A.length) : Fits A (i + 1) (A[i] :: ys) l where
  at_ := Nat.le_succ_of_le h.at_
  text := by
    have h1 := h.at_
    rw [List.reverse_cons, ← h.text, List.append_assoc]
    congr 1
    have hl : i - (fold A ([], 0) l).2 < (A.drop (fold A ([], 0) l).2).length := by rw [List.length_drop]; omega
    rw [Nat.sub_add_comm h1, List.take_succ_eq_append_getElem hl, List.getElem_drop]
    congr 2
    simp only [Nat.add_sub_cancel' h1]
  ord_ := h.ord_
  right_ := h.right_
  last q hq c hc := h.last q (by omega) c hc
theorem Fits.snoc {A : List UInt8} {i i' : Nat} {ys zs : List UInt8} {l : List Ch} {c : Ch} (h : Fits A i ys l) (hc : c.2.1 = (i : Int)) (hr : right A.length c = true) (hs : step A (fold A ([], 0) l) c = (zs.reverse, i'))
    (hl : ∀ q : Ch, (i' : Int) ≤ q.2.1 → after c q = true) : Fits A i' zs (l ++ [c]) where
  at_ := by rw [fold_snoc, hs]; exact Nat.le_refl _
  text := by rw [fold_snoc, hs]; simp
  ord_ := ord_snoc l c h.ord_ (fun p hp => h.last c (by omega) p hp)
  right_ := by rw [List.all_append, h.right_]; simp [hr]
  last q hq p hp := by
    rw [List.getLast?_append] at hp
    simp at hp
    rw [← hp]
    exact hl q hq

theorem scr_fits (A : List UInt8) (n : Nat) : ∀ (i : Nat) (xs ys : List UInt8), xs.length + ys.length ≤ n → i ≤ A.length → xs = (A.take i).reverse → Fits A i ys (scr xs ys) ∧ (scr xs ys).length = d xs ys := by
  induction n with
  | zero =>
    intro i xs ys h hi hx
    have h1 : xs = [] := List.eq_nil_of_length_eq_zero (by omega)
    have h2 : ys = [] := List.eq_nil_of_length_eq_zero (by omega)
    have h3 : i = 0 := by
      have := congrArg List.length hx
      rw [h1, List.length_reverse, List.length_take] at this
      simp at this
      omega
    subst h1 h2 h3
    have e : scr [] [] = [] := by rw [scr]
    rw [e]
    exact ⟨⟨Nat.le_refl _, rfl, rfl, rfl, fun q hq c hc => by simp at hc⟩, by rw [d_nil]; rfl⟩
  | succ n ih =>
    intro i xs ys h hi hx
    have hxl : xs.length = i := by rw [hx, List.length_reverse, List.length_take]; omega
    match xs, ys with
    | [], [] =>
      have h3 : i = 0 := by simpa using hxl.symm
      subst h3
      have e : scr [] [] = [] := by rw [scr]
      rw [e]
      exact ⟨⟨Nat.le_refl _, rfl, rfl, rfl, fun q hq c hc => by simp at hc⟩, by rw [d_nil]; rfl⟩
    | [], y :: ys =>
      have h3 : i = 0 := by simpa using hxl.symm
      subst h3
      obtain ⟨f, e⟩ := ih 0 [] ys (by simp at h ⊢; omega) hi hx
      have es : scr [] (y :: ys) = scr [] ys ++ [(1, 0, (y.toNat : Int))] := by rw [scr]
      rw [es]
      have h0 : (fold A ([], 0) (scr [] ys)).2 = 0 := Nat.le_zero.1 f.at_
      have ht := f.text
      rw [h0] at ht
      simp at ht
      refine ⟨f.snoc (i' := 0) rfl ?_ ?_ ?_, ?_⟩
      · have := y.toNat_lt
        simp [right]
        omega
      · simp [step, h0, ht]
      · intro q hq
        simp [after]
        omega
      · rw [List.length_append, e, d_nil, d_nil]; rfl
    | x :: xs, [] =>
      match i, hxl with
      | i + 1, hxl =>
        have hx2 : x :: xs = A[i]'(by omega) :: (A.take i).reverse := by rw [hx, take_rev A i (by omega)]
        obtain ⟨hxi, rfl⟩ := List.cons.inj hx2
        obtain ⟨f, e⟩ := ih i (A.take i).reverse [] (by simp at h ⊢; omega) (by omega) rfl
        have es : scr (x :: (A.take i).reverse) [] = scr (A.take i).reverse [] ++ [(2, ((A.take i).reverse.length : Int), 0)] := by rw [scr]
        have hl : (A.take i).reverse.length = i := by rw [List.length_reverse, List.length_take]; omega
        rw [es, hl]
        refine ⟨f.snoc (i' := i + 1) rfl ?_ ?_ ?_, ?_⟩
        · simp [right]; omega
        · have := f.text
          simp only [step]
          simp at this ⊢
          exact this
        · intro q hq
          simp [after]
          omega
        · rw [List.length_append, e, d_nil', d_nil', List.length_cons]; rfl
    | x :: xs, y :: ys =>
      match i, hxl with
      | i + 1, hxl =>
        have hx2 : x :: xs = A[i]'(by omega) :: (A.take i).reverse := by rw [hx, take_rev A i (by omega)]
        obtain ⟨hxi, rfl⟩ := List.cons.inj hx2
        have hl : (A.take i).reverse.length = i := by rw [List.length_reverse, List.length_take]; omega
        have hy := y.toNat_lt
        simp only [List.length_cons] at h
        rcases scr_ways x (A.take i).reverse y ys with ⟨rfl, es, ed⟩ | ⟨es, ed⟩ | ⟨es, ed⟩ | ⟨es, ed⟩ | ⟨us, vs, hu, rfl, es, ed⟩
        · obtain ⟨f, e⟩ := ih i (A.take i).reverse ys (by omega) (by omega) rfl
          rw [es]
          have := f.same (by omega)
          rw [← hxi] at this
          exact ⟨this, by rw [e, ed]⟩
        · obtain ⟨f, e⟩ := ih i (A.take i).reverse ys (by omega) (by omega) rfl
          rw [es, hl]
          refine ⟨f.snoc (i' := i + 1) rfl ?_ ?_ ?_, by rw [List.length_append, e, ed]; rfl⟩
          · simp [right]; omega
          · have := f.text
            simp only [step]
            simp at this ⊢
            rw [← List.append_assoc, this]
          · intro q hq
            simp [after]
            omega
        · obtain ⟨f, e⟩ := ih i (A.take i).reverse (y :: ys) (by simp; omega) (by omega) rfl
          rw [es, hl]
          refine ⟨f.snoc (i' := i + 1) rfl ?_ ?_ ?_, by rw [List.length_append, e, ed]; rfl⟩
          · simp [right]; omega
          · have := f.text
            simp only [step]
            simp at this ⊢
            exact this
          · intro q hq
            simp [after]
            omega
        · obtain ⟨f, e⟩ := ih (i + 1) (x :: (A.take i).reverse) ys (by simp; omega) hi hx
          rw [es, hl]
          refine ⟨f.snoc (i' := i + 1) rfl ?_ ?_ ?_, by rw [List.length_append, e, ed]; rfl⟩
          · simp [right]; omega
          · have := f.text
            have h2 : ((i : Int) + 1).toNat = i + 1 := by omega
            simp only [step, h2]
            simp at this ⊢
            rw [← List.append_assoc, this]
          · intro q hq
            simp [after]
            omega
        · match i, hl, hi, hx, h, hxi, hu, es, ed with
          | 0, hl, _, _, _, _, hu, _, _ => simp at hu
          | i + 1, hl, hi, hx, h, hxi, hu, es, ed =>
            have hu2 : y :: us = A[i]'(by omega) :: (A.take i).reverse := by rw [← hu, take_rev A i (by omega)]
            obtain ⟨hyi, rfl⟩ := List.cons.inj hu2
            have hl2 : (A.take i).reverse.length = i := by rw [List.length_reverse, List.length_take]; omega
            obtain ⟨f, e⟩ := ih i (A.take i).reverse vs (by simp at h ⊢; omega) (by omega) rfl
            rw [es, hl2]
            refine ⟨f.snoc (i' := i + 2) rfl ?_ ?_ ?_, by rw [List.length_append, e, ed]; rfl⟩
            · simp [right]; omega
            · have := f.text
              simp only [step]
              rw [getD_is A _ (by omega), getD_is A _ (by omega)]
              simp at this ⊢
              rw [← hxi, ← hyi, ← List.append_assoc, this]
            · intro q hq
              simp [after]
              omega

/-- The script of two texts. -/
def script (a b : List UInt8) : List Ch := scr a.reverse b.reverse
theorem script_all (a b : List UInt8) : ord (script a b) = true ∧ (script a b).all (right a.length) = true ∧ ap a (script a b) = b ∧ (script a b).length = dist a b := by
  obtain ⟨f, e⟩ := scr_fits a _ a.length a.reverse b.reverse (Nat.le_refl _) (Nat.le_refl _) (by rw [List.take_length])
  refine ⟨f.ord_, f.right_, ?_, e⟩
  have h := f.text
  rw [List.reverse_reverse] at h
  rw [List.take_of_length_le (by rw [List.length_drop]; exact Nat.le_refl _)] at h
  exact h
end Go.Proofs.YtgokinfejbefjaaDoor.DM
