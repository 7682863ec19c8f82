/- Numbers of days: which dates exist, how many days lie before each, and which date has a given number. No program is spoken of here. -/
import Init.Data.List.Lemmas
namespace Go.Proofs.YtlgnppfompeghaaDoor.DM

/-- A year with a 29th of February. -/
def leap (y : Int) : Bool := y % 4 == 0 && (y % 100 != 0 || y % 400 == 0)
/-- The number of days of a month. -/
def len (y m : Int) : Int := if m = 2 then (if leap y = true then 29 else 28) else if m = 4 ∨ m = 6 ∨ m = 9 ∨ m = 11 then 30 else 31
/-- The date exists. -/
def valid (y m d : Int) : Bool := decide (1800 ≤ y) && decide (y ≤ 2199) && decide (1 ≤ m) && decide (m ≤ 12) && decide (1 ≤ d) && decide (d ≤ len y m)
/-- The days before a year. -/
def before (y : Int) : Int := 365 * (y - 1800) + ((y - 1) / 4 - (y - 1) / 100 + (y - 1) / 400) - 436
/-- The days of the first k months of a year. -/
def cum (y : Int) : Nat → Int
  | 0 => 0
  | k + 1 => cum y k + len y (k + 1 : Nat)
/-- The number of a day. -/
def day (y m d : Int) : Int := before y + cum y (m - 1).toNat + d - 1

theorem valid_iff {y m d : Int} : valid y m d = true ↔ (1800 ≤ y ∧ y ≤ 2199) ∧ (1 ≤ m ∧ m ≤ 12) ∧ (1 ≤ d ∧ d ≤ len y m) := by
  unfold valid
  simp only [Bool.and_eq_true, decide_eq_true_eq]
  omega
theorem len_pos (y m : Int) : 28 ≤ len y m ∧ len y m ≤ 31 := by
  unfold len
  repeat' split
  all_goals omega
theorem before_next (y : Int) : before (y + 1) = before y + 365 + (if leap y = true then 1 else 0) := by
  unfold before leap
  split
  · next h =>
    simp at h
    omega
  · next h =>
    simp at h
    omega
theorem cum_year (y : Int) : cum y 12 = 365 + (if leap y = true then 1 else 0) := by
  cases h : leap y <;> simp [cum, len, h]
theorem before_mono {y z : Int} (h : y ≤ z) : before y ≤ before z := by
  unfold before
  omega
theorem before_first : before 1800 = 0 := by decide
theorem before_last : before 2200 = 146097 := by decide
theorem cum_mono (y : Int) {a b : Nat} (h : a ≤ b) : cum y a ≤ cum y b := by
  induction b with
  | zero => obtain rfl : a = 0 := by omega
            exact Int.le_refl _
  | succ b ih =>
    rcases Nat.lt_or_ge b a with h' | h'
    · obtain rfl : a = b + 1 := by omega
      exact Int.le_refl _
    · have := ih h'
      have := (len_pos y ((b + 1 : Nat) : Int)).1
      show _ ≤ cum y b + _
      omega
theorem cum_pos (y : Int) (a : Nat) : 0 ≤ cum y a := cum_mono y (Nat.zero_le a)
theorem cum_at (y m : Int) (h : 1 ≤ m) : cum y m.toNat = cum y (m - 1).toNat + len y m := by
  have e : m.toNat = (m - 1).toNat + 1 := by omega
  have e2 : (((m - 1).toNat + 1 : Nat) : Int) = m := by omega
  rw [e]
  show cum y (m - 1).toNat + len y (((m - 1).toNat + 1 : Nat) : Int) = _
  rw [e2]
/-- A day of a year lies among the year's. -/
theorem day_in {y m d : Int} (h : valid y m d = true) : before y ≤ day y m d ∧ day y m d < before (y + 1) := by
  obtain ⟨_, hm, hd⟩ := valid_iff.1 h
  have h1 := cum_pos y (m - 1).toNat
  have h2 := cum_at y m hm.1
  have h3 := cum_mono y (a := m.toNat) (b := 12) (by omega)
  rw [cum_year] at h3
  rw [before_next]
  unfold day
  omega
/-- The rank of a date among all. -/
def key (y m d : Int) : Int := (y * 100 + m) * 100 + d
theorem day_lt {y m d y' m' d' : Int} (h : valid y m d = true) (h' : valid y' m' d' = true) (hk : key y m d < key y' m' d') : day y m d < day y' m' d' := by
  have i := day_in h
  have i' := day_in h'
  obtain ⟨_, hm, hd⟩ := valid_iff.1 h
  obtain ⟨_, hm', hd'⟩ := valid_iff.1 h'
  have l1 := len_pos y m
  have l2 := len_pos y' m'
  unfold key at hk
  rcases Int.lt_or_le y y' with hy | hy
  · have := before_mono (y := y + 1) (z := y') (by omega)
    omega
  · obtain rfl : y = y' := by omega
    rcases Int.lt_or_le m m' with hmm | hmm
    · have h2 := cum_at y m hm.1
      have h3 := cum_mono y (a := m.toNat) (b := (m' - 1).toNat) (by omega)
      unfold day
      omega
    · obtain rfl : m = m' := by omega
      unfold day
      omega
theorem key_inj {y m d y' m' d' : Int} (h : valid y m d = true) (h' : valid y' m' d' = true) (hk : key y m d = key y' m' d') : y = y' ∧ m = m' ∧ d = d' := by
  obtain ⟨_, hm, hd⟩ := valid_iff.1 h
  obtain ⟨_, hm', hd'⟩ := valid_iff.1 h'
  have l1 := len_pos y m
  have l2 := len_pos y' m'
  unfold key at hk
  omega
theorem day_lt_iff {y m d y' m' d' : Int} (h : valid y m d = true) (h' : valid y' m' d' = true) : day y m d < day y' m' d' ↔ key y m d < key y' m' d' := by
  refine ⟨fun hl => ?_, day_lt h h'⟩
  rcases Int.lt_trichotomy (key y m d) (key y' m' d') with hk | hk | hk
  · exact hk
  · obtain ⟨rfl, rfl, rfl⟩ := key_inj h h' hk
    omega
  · have := day_lt h' h hk
    omega
theorem day_inj {y m d y' m' d' : Int} (h : valid y m d = true) (h' : valid y' m' d' = true) (he : day y m d = day y' m' d') : y = y' ∧ m = m' ∧ d = d' := by
  refine key_inj h h' ?_
  rcases Int.lt_trichotomy (key y m d) (key y' m' d') with hk | hk | hk
  · have := day_lt h h' hk
    omega
  · exact hk
  · have := day_lt h' h hk
    omega
theorem day_range {y m d : Int} (h : valid y m d = true) : 0 ≤ day y m d ∧ day y m d < 146097 := by
  have i := day_in h
  obtain ⟨hy, _⟩ := valid_iff.1 h
  have h1 := before_mono (y := 1800) (z := y) hy.1
  have h2 := before_mono (y := y + 1) (z := 2200) (by omega)
  rw [before_first] at h1
  rw [before_last] at h2
  omega
/-- What is counted off by months is the date. -/
theorem made {n y m r : Int} (hy : 1800 ≤ y ∧ y ≤ 2199) (hm : 1 ≤ m ∧ m ≤ 12) (hr : 0 ≤ r ∧ r < len y m) (he : r + cum y (m - 1).toNat + before y = n) : valid y m (r + 1) = true ∧ day y m (r + 1) = n := by
  refine ⟨valid_iff.2 ⟨hy, hm, by omega⟩, ?_⟩
  unfold day
  omega
/-- No month beyond the twelfth is wanted. -/
theorem twelve {n y m r : Int} (hm : 1 ≤ m ∧ m ≤ 12) (hn : n < before (y + 1)) (hr : len y m ≤ r) (he : r + cum y (m - 1).toNat + before y = n) : m ≤ 11 := by
  rcases Int.lt_or_le m 12 with h | h
  · omega
  · obtain rfl : m = 12 := by omega
    have h2 := cum_at y 12 (by omega)
    rw [before_next] at hn
    have h3 := cum_year y
    rw [show ((12 : Int)).toNat = 12 from rfl, h3] at h2
    omega
theorem next_month {n y m r : Int} (hm : 1 ≤ m) (he : r + cum y (m - 1).toNat + before y = n) : (r - len y m) + cum y (m + 1 - 1).toNat + before y = n := by
  have h2 := cum_at y m hm
  rw [show m + 1 - 1 = m by omega]
  omega
theorem year_begins {n y r : Int} (he : r + before y = n) : r + cum y ((1 : Int) - 1).toNat + before y = n := by
  show r + 0 + before y = n
  omega
theorem next_year {n y r : Int} (he : r + cum y ((13 : Int) - 1).toNat + before y = n) : r + before (y + 1) = n := by
  rw [before_next]
  have h3 := cum_year y
  rw [show ((13 : Int) - 1).toNat = 12 from rfl, h3] at he
  omega

/-- Where a test that stays true begins to be true. -/
theorem edge (p : Nat → Bool) : ∀ n, (∀ a b, a ≤ b → b < n → p a = true → p b = true) → ∃ c, c ≤ n ∧ (∀ t, t < c → p t = false) ∧ (∀ t, c ≤ t → t < n → p t = true)
  | 0, _ => ⟨0, Nat.le_refl _, fun t h => absurd h (Nat.not_lt_zero _), fun t _ h => absurd h (Nat.not_lt_zero _)⟩
  | n + 1, h => by
    obtain ⟨c, hc, h1, h2⟩ := edge p n (fun a b hab hb => h a b hab (by omega))
    rcases Nat.lt_or_ge c n with hlt | hge
    · exact ⟨c, by omega, h1, fun t ht htn => h c t ht htn (h2 c (Nat.le_refl _) hlt)⟩
    · obtain rfl : c = n := by omega
      cases hp : p c with
      | false => exact ⟨c + 1, Nat.le_refl _, fun t ht => by rcases Nat.lt_or_ge t c with h' | h'
                                                             · exact h1 t h'
                                                             · obtain rfl : t = c := by omega
                                                               exact hp, fun t ht htn => by omega⟩
      | true => exact ⟨c, by omega, h1, fun t ht htn => by obtain rfl : t = c := by omega
                                                           exact hp⟩
theorem year_mono (n : Int) : ∀ a b : Nat, a ≤ b → b < 399 → decide (n < before (1800 + (a : Int) + 1)) = true → decide (n < before (1800 + (b : Int) + 1)) = true := by
  intro a b hab _ h
  simp only [decide_eq_true_eq] at h ⊢
  have := before_mono (y := 1800 + (a : Int) + 1) (z := 1800 + (b : Int) + 1) (by omega)
  omega
/-- The count of the years that end before day n. -/
theorem year_of {n : Int} {c : Nat} (h0 : 0 ≤ n) (h1 : n < 146097) (hc : c ≤ 399) (hl : ∀ t, t < c → decide (n < before (1800 + (t : Int) + 1)) = false) (hr : ∀ t, c ≤ t → t < 399 → decide (n < before (1800 + (t : Int) + 1)) = true) :
    before (1800 + (c : Int)) ≤ n ∧ n < before (1800 + (c : Int) + 1) := by
  constructor
  · rcases Nat.eq_zero_or_pos c with rfl | hp
    · rw [show (1800 : Int) + ((0 : Nat) : Int) = 1800 by omega, before_first]
      exact h0
    · have := hl (c - 1) (by omega)
      simp only [decide_eq_false_iff_not] at this
      rw [show (1800 : Int) + ((c - 1 : Nat) : Int) + 1 = 1800 + (c : Int) by omega] at this
      omega
  · rcases Nat.lt_or_ge c 399 with hp | hp
    · have := hr c (Nat.le_refl _) hp
      simpa using this
    · obtain rfl : c = 399 := by omega
      rw [show (1800 : Int) + ((399 : Nat) : Int) + 1 = 2200 by omega, before_last]
      exact h1

/-- The next day of a date. -/
theorem next_day {y m d y' m' d' : Int} (h : valid y m d = true) (h' : valid y' m' d' = true) (he : day y' m' d' = day y m d + 1) :
    (d' = d + 1 ∧ m' = m ∧ y' = y) ∨ (d' ≠ d + 1 ∧ d' = 1 ∧ valid y m (d + 1) = false ∧ ((m' = m + 1 ∧ y' = y) ∨ (m = 12 ∧ m' = 1 ∧ y' = y + 1 ∧ m' ≠ m + 1))) := by
  obtain ⟨hy, hm, hd⟩ := valid_iff.1 h
  cases hv : valid y m (d + 1) with
  | true =>
    left
    obtain ⟨rfl, rfl, rfl⟩ := day_inj hv h' (by rw [he]; unfold day; omega)
    exact ⟨rfl, rfl, rfl⟩
  | false =>
    right
    have hdl : d = len y m := by
      have : ¬ valid y m (d + 1) = true := by rw [hv]; decide
      rw [valid_iff] at this
      omega
    have hl := len_pos y m
    rcases Int.lt_or_le m 12 with hm12 | hm12
    · have hv2 : valid y (m + 1) 1 = true := valid_iff.2 ⟨hy, by omega, by have := len_pos y (m + 1); omega⟩
      obtain ⟨rfl, rfl, rfl⟩ := day_inj hv2 h' (by
        rw [he]
        unfold day
        have h2 := cum_at y m hm.1
        rw [show m + 1 - 1 = m by omega]
        omega)
      exact ⟨by omega, rfl, rfl, .inl ⟨rfl, rfl⟩⟩
    · obtain rfl : m = 12 := by omega
      have h2 := cum_at y 12 (by omega)
      have h3 := cum_year y
      rw [show ((12 : Int)).toNat = 12 from rfl, h3] at h2
      have hb := before_next y
      rcases Int.lt_or_le y 2199 with hy2 | hy2
      · have hv2 : valid (y + 1) 1 1 = true := valid_iff.2 ⟨by omega, by omega, by have := len_pos (y + 1) 1; omega⟩
        obtain ⟨rfl, rfl, rfl⟩ := day_inj hv2 h' (by
          rw [he]
          show before (y + 1) + 0 + 1 - 1 = _
          unfold day
          omega)
        exact ⟨by omega, rfl, rfl, .inr ⟨rfl, rfl, rfl, by omega⟩⟩
      · obtain rfl : y = 2199 := by omega
        exfalso
        have := (day_range h').2
        rw [he] at this
        have hbl := before_last
        rw [show (2199 : Int) + 1 = 2200 by omega] at hb
        unfold day at this
        omega
/-- The day before a birthday. -/
theorem day_before {y m d k y' m' d' : Int} (h : valid y m d = true) (ha : valid (y + k) m d = true) (h' : valid y' m' d' = true) (hk : 1 ≤ k) (he : day y' m' d' = day (y + k) m d - 1) :
    day y m d ≤ day y' m' d' ∧ y' - y - (if m' < m ∨ m' = m ∧ d' < d then 1 else 0) = k - 1 := by
  obtain ⟨hy, hm, hd⟩ := valid_iff.1 h
  obtain ⟨hy', hm', hd'⟩ := valid_iff.1 h'
  have l1 := len_pos y m
  have l2 := len_pos y' m'
  have hlt := day_lt h ha (by unfold key; omega)
  refine ⟨by omega, ?_⟩
  have ka := (day_lt_iff h' ha).1 (by omega)
  have i := day_in ha
  have i' := day_in h'
  have hyy : y' ≤ y + k := by unfold key at ka; omega
  rcases Int.lt_or_le y' (y + k) with hlt' | hge
  · -- then the birthday is the first of January
    have hb := before_mono (y := y' + 1) (z := y + k) (by omega)
    have hm1 : m = 1 ∧ d = 1 := by
      have hc := cum_pos (y + k) (m - 1).toNat
      have hd0 : day (y + k) m d = before (y + k) + cum (y + k) (m - 1).toNat + d - 1 := rfl
      have hcz : cum (y + k) (m - 1).toNat = 0 := by omega
      have hm1 : m = 1 := by
        rcases Int.lt_or_le 1 m with h2 | h2
        · have c1 := cum_mono (y + k) (a := 1) (b := (m - 1).toNat) (by omega)
          have c2 : cum (y + k) 1 = 0 + len (y + k) ((1 : Nat) : Int) := rfl
          have := len_pos (y + k) ((1 : Nat) : Int)
          omega
        · omega
      exact ⟨hm1, by omega⟩
    obtain ⟨rfl, rfl⟩ := hm1
    have hyk : y' = y + k - 1 := by
      rcases Int.lt_or_le y' (y + k - 1) with h2 | h2
      · have hb2 := before_mono (y := y' + 1) (z := y + k - 1) (by omega)
        have hb3 := before_next (y + k - 1)
        rw [show y + k - 1 + 1 = y + k by omega] at hb3
        have : before (y + k) ≥ before (y + k - 1) + 365 := by split at hb3 <;> omega
        have hd0 : day (y + k) 1 1 = before (y + k) + 0 + 1 - 1 := rfl
        omega
      · omega
    rw [if_neg (by omega)]
    omega
  · obtain rfl : y' = y + k := by omega
    rw [if_pos (by unfold key at ka; omega)]
    omega
end Go.Proofs.YtlgnppfompeghaaDoor.DM
