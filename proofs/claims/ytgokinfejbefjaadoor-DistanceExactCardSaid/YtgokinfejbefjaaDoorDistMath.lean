/- Layer 7 in plain lists of bytes: the distance over texts that are read from their ends, its bounds, what two lists one behind the other cost, the script that is found from the end. No Go in sight. -/
import Init.Data.List.Lemmas
namespace Go.Proofs.YtgokinfejbefjaaDoor.DM
set_option maxRecDepth 100000

/-- The distance of two texts, both read from their ends. -/
def d : List UInt8 → List UInt8 → Nat
  | [], ys => ys.length
  | _ :: xs, [] => xs.length + 1
  | [x], y :: ys => min (d [] ys + (if x = y then 0 else 1)) (min (d [] (y :: ys) + 1) (d [x] ys + 1))
  | x :: x2 :: xs, [y] => min (d (x2 :: xs) [] + (if x = y then 0 else 1)) (min (d (x2 :: xs) [y] + 1) (d (x :: x2 :: xs) [] + 1))
  | x :: x2 :: xs, y :: y2 :: ys =>
    let n := min (d (x2 :: xs) (y2 :: ys) + (if x = y then 0 else 1)) (min (d (x2 :: xs) (y :: y2 :: ys) + 1) (d (x :: x2 :: xs) (y2 :: ys) + 1))
    if x = y2 ∧ x2 = y then min n (d xs ys + 1) else n
termination_by xs ys => xs.length + ys.length

theorem d_nil (ys : List UInt8) : d [] ys = ys.length := by rw [d]
theorem d_nil' (xs : List UInt8) : d xs [] = xs.length := by cases xs <;> rw [d] <;> rfl

/-- The distance of both texts with a byte more, but for an exchange. -/
def base (x : UInt8) (xs : List UInt8) (y : UInt8) (ys : List UInt8) : Nat := min (d xs ys + (if x = y then 0 else 1)) (min (d xs (y :: ys) + 1) (d (x :: xs) ys + 1))

theorem d_two (x x2 : UInt8) (xs : List UInt8) (y y2 : UInt8) (ys : List UInt8) :
    d (x :: x2 :: xs) (y :: y2 :: ys) = if x = y2 ∧ x2 = y then min (base x (x2 :: xs) y (y2 :: ys)) (d xs ys + 1) else base x (x2 :: xs) y (y2 :: ys) := by
  rw [d]; rfl
theorem d_one (x y : UInt8) (ys : List UInt8) : d [x] (y :: ys) = base x [] y ys := by
  rw [d]; rfl
theorem d_one' (x : UInt8) (xs : List UInt8) (y : UInt8) : d (x :: xs) [y] = base x xs y [] := by
  cases xs with
  | nil => exact d_one x y []
  | cons x2 xs => rw [d]; rfl
theorem d_base (x : UInt8) (xs : List UInt8) (y : UInt8) (ys : List UInt8) : d (x :: xs) (y :: ys) ≤ base x xs y ys := by
  match xs, ys with
  | [], ys => rw [d_one]; exact Nat.le_refl _
  | x2 :: xs, [] => rw [d_one']; exact Nat.le_refl _
  | x2 :: xs, y2 :: ys =>
    rw [d_two]
    split
    · exact Nat.min_le_left _ _
    · exact Nat.le_refl _
theorem up1 (x : UInt8) (xs : List UInt8) (y : UInt8) (ys : List UInt8) : d (x :: xs) (y :: ys) ≤ d xs ys + (if x = y then 0 else 1) :=
  Nat.le_trans (d_base x xs y ys) (Nat.min_le_left _ _)
theorem up2 (x : UInt8) (xs ys : List UInt8) : d (x :: xs) ys ≤ d xs ys + 1 := by
  cases ys with
  | nil => rw [d_nil', d_nil']; exact Nat.le_refl _
  | cons y ys => exact Nat.le_trans (d_base x xs y ys) (Nat.le_trans (Nat.min_le_right _ _) (Nat.min_le_left _ _))
theorem up3 (xs : List UInt8) (y : UInt8) (ys : List UInt8) : d xs (y :: ys) ≤ d xs ys + 1 := by
  cases xs with
  | nil => rw [d_nil, d_nil]; exact Nat.le_refl _
  | cons x xs => exact Nat.le_trans (d_base x xs y ys) (Nat.le_trans (Nat.min_le_right _ _) (Nat.min_le_right _ _))
theorem up4 (x y : UInt8) (xs ys : List UInt8) : d (x :: y :: xs) (y :: x :: ys) ≤ d xs ys + 1 := by
  rw [d_two, if_pos ⟨rfl, rfl⟩]
  exact Nat.min_le_right _ _
theorem base_cases (x : UInt8) (xs : List UInt8) (y : UInt8) (ys : List UInt8) : base x xs y ys = d xs ys + (if x = y then 0 else 1) ∨ base x xs y ys = d xs (y :: ys) + 1 ∨ base x xs y ys = d (x :: xs) ys + 1 := by
  unfold base
  omega
/-- On which way the distance is reached. -/
theorem low (x : UInt8) (xs : List UInt8) (y : UInt8) (ys : List UInt8) : d (x :: xs) (y :: ys) = d xs ys + (if x = y then 0 else 1) ∨ d (x :: xs) (y :: ys) = d xs (y :: ys) + 1 ∨ d (x :: xs) (y :: ys) = d (x :: xs) ys + 1 ∨
    ∃ us vs, xs = y :: us ∧ ys = x :: vs ∧ d (x :: xs) (y :: ys) = d us vs + 1 := by
  have hb := base_cases x xs y ys
  match xs, ys, hb with
  | [], ys, hb => rw [d_one]; omega
  | x2 :: xs, [], hb => rw [d_one']; omega
  | x2 :: xs, y2 :: ys, hb =>
    by_cases h : x = y2 ∧ x2 = y
    · by_cases hm : base x (x2 :: xs) y (y2 :: ys) ≤ d xs ys + 1
      · rw [d_two, if_pos h, Nat.min_eq_left hm]
        rcases hb with hb | hb | hb
        · exact .inl hb
        · exact .inr (.inl hb)
        · exact .inr (.inr (.inl hb))
      · refine .inr (.inr (.inr ⟨xs, ys, by rw [h.2], by rw [h.1], ?_⟩))
        rw [d_two, if_pos h, Nat.min_eq_right (by omega)]
    · rw [d_two, if_neg h]
      rcases hb with hb | hb | hb
      · exact .inl hb
      · exact .inr (.inl hb)
      · exact .inr (.inr (.inl hb))

theorem turn_le (n : Nat) : ∀ xs ys : List UInt8, xs.length + ys.length ≤ n → d ys xs ≤ d xs ys := by
  induction n with
  | zero =>
    intro xs ys h
    have h1 : xs = [] := List.eq_nil_of_length_eq_zero (by omega)
    have h2 : ys = [] := List.eq_nil_of_length_eq_zero (by omega)
    subst h1 h2
    exact Nat.le_refl _
  | succ n ih =>
    intro xs ys h
    match xs, ys with
    | [], ys => rw [d_nil, d_nil']; exact Nat.le_refl _
    | x :: xs, [] => rw [d_nil, d_nil']; exact Nat.le_refl _
    | x :: xs, y :: ys =>
      simp only [List.length_cons] at h
      have i1 := ih xs ys (by omega)
      have i2 := ih xs (y :: ys) (by simp; omega)
      have i3 := ih (x :: xs) ys (by simp; omega)
      have u1 := up1 y ys x xs
      have u2 := up2 y ys (x :: xs)
      have u3 := up3 (y :: ys) x xs
      have hc : (if y = x then 0 else 1) = (if x = y then 0 else 1) := by simp only [eq_comm]
      rw [hc] at u1
      rcases low x xs y ys with e | e | e | ⟨us, vs, rfl, rfl, e⟩
      · omega
      · omega
      · omega
      · have i4 := ih us vs (by simp at h; omega)
        have u4 := up4 y x vs us
        omega
theorem turn (xs ys : List UInt8) : d ys xs = d xs ys := Nat.le_antisymm (turn_le _ xs ys (Nat.le_refl _)) (turn_le _ ys xs (Nat.le_refl _))

/-- A byte less costs one change at most. -/
theorem lip_le (n : Nat) : ∀ xs ys : List UInt8, xs.length + ys.length ≤ n → ∀ y, d xs ys ≤ d xs (y :: ys) + 1 := by
  induction n with
  | zero =>
    intro xs ys h y
    have h1 : xs = [] := List.eq_nil_of_length_eq_zero (by omega)
    subst h1
    rw [d_nil, d_nil]
    simp
    omega
  | succ n ih =>
    intro xs ys h y
    match xs with
    | [] => rw [d_nil, d_nil]; simp; omega
    | x :: xs =>
      simp only [List.length_cons] at h
      have i1 := ih xs ys (by omega) y
      have u2 := up2 x xs ys
      have hc : (if x = y then 0 else 1) ≤ 1 := by split <;> omega
      rcases low x xs y ys with e | e | e | ⟨us, vs, rfl, rfl, e⟩
      · omega
      · omega
      · omega
      · have u1 := up1 x (y :: us) x vs
        rw [if_pos rfl] at u1
        have u5 := up2 y us vs
        omega
theorem lip (xs : List UInt8) (y : UInt8) (ys : List UInt8) : d xs ys ≤ d xs (y :: ys) + 1 := lip_le _ xs ys (Nat.le_refl _) y
theorem lip' (x : UInt8) (xs ys : List UInt8) : d xs ys ≤ d (x :: xs) ys + 1 := by
  rw [← turn xs ys, ← turn (x :: xs) ys]
  exact lip ys x xs

/-- Equal bytes at the end do not count. -/
theorem same (x : UInt8) (xs ys : List UInt8) : d (x :: xs) (x :: ys) = d xs ys := by
  refine Nat.le_antisymm ?_ ?_
  · have := up1 x xs x ys
    rwa [if_pos rfl] at this
  · have l1 := lip xs x ys
    have l2 := lip' x xs ys
    rcases low x xs x ys with e | e | e | ⟨us, vs, rfl, rfl, e⟩
    · rw [if_pos rfl] at e
      omega
    · omega
    · omega
    · have u1 := up1 x us x vs
      rw [if_pos rfl] at u1
      omega
theorem self (xs : List UInt8) : d xs xs = 0 := by
  induction xs with
  | nil => rw [d_nil]; rfl
  | cons x xs ih => rw [same, ih]
theorem eq_of_zero (xs : List UInt8) : ∀ ys, d xs ys = 0 → xs = ys := by
  induction xs with
  | nil =>
    intro ys h
    rw [d_nil] at h
    exact (List.eq_nil_of_length_eq_zero h).symm
  | cons x xs ih =>
    intro ys h
    cases ys with
    | nil => rw [d_nil'] at h; simp at h
    | cons y ys =>
      rcases low x xs y ys with e | e | e | ⟨us, vs, rfl, rfl, e⟩
      · by_cases hxy : x = y
        · rw [if_pos hxy] at e
          rw [hxy, ih ys (by omega)]
        · rw [if_neg hxy] at e
          omega
      · omega
      · omega
      · omega
theorem zero_iff (xs ys : List UInt8) : d xs ys = 0 ↔ xs = ys := ⟨eq_of_zero xs ys, fun h => by rw [h]; exact self ys⟩

theorem le_max (xs : List UInt8) : ∀ ys, d xs ys ≤ max xs.length ys.length := by
  induction xs with
  | nil => intro ys; rw [d_nil]; exact Nat.le_max_right _ _
  | cons x xs ih =>
    intro ys
    cases ys with
    | nil => rw [d_nil']; exact Nat.le_max_left _ _
    | cons y ys =>
      have h := ih ys
      have u := up1 x xs y ys
      have hc : (if x = y then 0 else 1) ≤ 1 := by split <;> omega
      simp only [List.length_cons]
      omega
theorem ge_diff_le (n : Nat) : ∀ xs ys : List UInt8, xs.length + ys.length ≤ n → xs.length ≤ ys.length + d xs ys := by
  induction n with
  | zero => intro xs ys h; omega
  | succ n ih =>
    intro xs ys h
    match xs, ys with
    | [], ys => simp
    | x :: xs, [] => rw [d_nil']; simp
    | x :: xs, y :: ys =>
      simp only [List.length_cons] at h ⊢
      have i1 := ih xs ys (by omega)
      have i2 := ih xs (y :: ys) (by simp; omega)
      have i3 := ih (x :: xs) ys (by simp; omega)
      simp only [List.length_cons] at i2 i3
      rcases low x xs y ys with e | e | e | ⟨us, vs, rfl, rfl, e⟩
      · omega
      · omega
      · omega
      · have i4 := ih us vs (by simp at h; omega)
        simp only [List.length_cons]
        omega
theorem ge_diff (xs ys : List UInt8) : xs.length ≤ ys.length + d xs ys := ge_diff_le _ xs ys (Nat.le_refl _)

/-- Two pairs of texts one behind the other. -/
theorem grow_right (us vs : List UInt8) (ys : List UInt8) : d us (ys ++ vs) ≤ ys.length + d us vs := by
  induction ys with
  | nil => simp
  | cons y ys ih =>
    have := up3 us y (ys ++ vs)
    simp only [List.cons_append, List.length_cons]
    omega
theorem grow_left (us vs : List UInt8) (xs : List UInt8) : d (xs ++ us) vs ≤ xs.length + d us vs := by
  induction xs with
  | nil => simp
  | cons x xs ih =>
    have := up2 x (xs ++ us) vs
    simp only [List.cons_append, List.length_cons]
    omega
theorem cat_le (n : Nat) (us vs : List UInt8) : ∀ xs ys : List UInt8, xs.length + ys.length ≤ n → d (xs ++ us) (ys ++ vs) ≤ d xs ys + d us vs := by
  induction n with
  | zero =>
    intro xs ys h
    have h1 : xs = [] := List.eq_nil_of_length_eq_zero (by omega)
    have h2 : ys = [] := List.eq_nil_of_length_eq_zero (by omega)
    subst h1 h2
    simp
  | succ n ih =>
    intro xs ys h
    match xs, ys with
    | [], ys => rw [d_nil]; exact grow_right us vs ys
    | x :: xs, [] => rw [d_nil']; exact grow_left us vs (x :: xs)
    | x :: xs, y :: ys =>
      simp only [List.length_cons] at h
      have i1 := ih xs ys (by omega)
      have i2 := ih xs (y :: ys) (by simp; omega)
      have i3 := ih (x :: xs) ys (by simp; omega)
      have u1 := up1 x (xs ++ us) y (ys ++ vs)
      have u2 := up2 x (xs ++ us) (y :: (ys ++ vs))
      have u3 := up3 (x :: (xs ++ us)) y (ys ++ vs)
      simp only [List.cons_append] at i2 i3 ⊢
      rcases low x xs y ys with e | e | e | ⟨ts, ws, rfl, rfl, e⟩
      · omega
      · omega
      · omega
      · have i4 := ih ts ws (by simp at h; omega)
        have u4 := up4 x y (ts ++ us) (ws ++ vs)
        simp only [List.cons_append]
        omega
theorem cat (xs ys us vs : List UInt8) : d (xs ++ us) (ys ++ vs) ≤ d xs ys + d us vs := cat_le _ us vs xs ys (Nat.le_refl _)

/-- The distance of two texts. -/
def dist (a b : List UInt8) : Nat := d a.reverse b.reverse
theorem dist_turn (a b : List UInt8) : dist a b = dist b a := turn _ _
theorem dist_self (a : List UInt8) : dist a a = 0 := self _
theorem dist_zero (a b : List UInt8) : dist a b = 0 ↔ a = b := by
  unfold dist
  rw [zero_iff]
  exact ⟨fun h => List.reverse_inj.1 h, fun h => by rw [h]⟩
theorem dist_max (a b : List UInt8) : dist a b ≤ max a.length b.length := by
  have := le_max a.reverse b.reverse
  simpa [dist] using this
theorem dist_diff (a b : List UInt8) : a.length ≤ b.length + dist a b := by
  have := ge_diff a.reverse b.reverse
  simpa [dist] using this
theorem dist_cat (a b u v : List UInt8) : dist (a ++ u) (b ++ v) ≤ dist a b + dist u v := by
  unfold dist
  rw [List.reverse_append, List.reverse_append]
  have := cat u.reverse v.reverse a.reverse b.reverse
  omega
theorem dist_ends (p q a b : List UInt8) : dist (p ++ a ++ q) (p ++ b ++ q) ≤ dist a b := by
  have h1 := dist_cat (p ++ a) (p ++ b) q q
  have h2 := dist_cat p p a b
  rw [dist_self] at h1 h2
  omega

/-- Row i, column k of the table of all beginnings. -/
def tab (a b : List UInt8) (i k : Nat) : Nat := dist (a.take i) (b.take k)
theorem tab_left (a b : List UInt8) (k : Nat) (h : k ≤ b.length) : tab a b 0 k = k := by
  unfold tab dist
  rw [List.take_zero, List.reverse_nil, d_nil, List.length_reverse, List.length_take]
  omega
theorem tab_top (a b : List UInt8) (i : Nat) (h : i ≤ a.length) : tab a b i 0 = i := by
  unfold tab dist
  rw [List.take_zero, List.reverse_nil, d_nil', List.length_reverse, List.length_take]
  omega
theorem take_rev (a : List UInt8) (i : Nat) (h : i < a.length) : (a.take (i + 1)).reverse = a[i] :: (a.take i).reverse := by
  rw [List.take_succ_eq_append_getElem h, List.reverse_append]
  rfl
theorem tab_base (a b : List UInt8) (i k : Nat) (hi : i < a.length) (hk : k < b.length) (h : i = 0 ∨ k = 0) :
    tab a b (i + 1) (k + 1) = min (tab a b i k + (if a[i] = b[k] then 0 else 1)) (min (tab a b i (k + 1) + 1) (tab a b (i + 1) k + 1)) := by
  unfold tab dist
  rw [take_rev a i hi, take_rev b k hk]
  rcases h with rfl | rfl
  · rw [List.take_zero, List.reverse_nil, d_one]
    rfl
  · rw [List.take_zero, List.reverse_nil, d_one']
    rfl
theorem tab_next (a b : List UInt8) (i k : Nat) (hi : i + 1 < a.length) (hk : k + 1 < b.length) :
    tab a b (i + 2) (k + 2) = if a[i + 1] = b[k] ∧ a[i] = b[k + 1] then min (min (tab a b (i + 1) (k + 1) + (if a[i + 1] = b[k + 1] then 0 else 1)) (min (tab a b (i + 1) (k + 2) + 1) (tab a b (i + 2) (k + 1) + 1))) (tab a b i k + 1)
      else min (tab a b (i + 1) (k + 1) + (if a[i + 1] = b[k + 1] then 0 else 1)) (min (tab a b (i + 1) (k + 2) + 1) (tab a b (i + 2) (k + 1) + 1)) := by
  unfold tab dist
  rw [take_rev a (i + 1) hi, take_rev b (k + 1) hk, take_rev a i (by omega), take_rev b k (by omega), d_two]
  rfl
end Go.Proofs.YtgokinfejbefjaaDoor.DM
