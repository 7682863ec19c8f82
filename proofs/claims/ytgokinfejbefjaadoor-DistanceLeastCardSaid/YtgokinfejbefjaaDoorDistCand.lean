/- Layer 7 in plain lists: the five last steps of a way, the shortest of them, and which of them the script prefers. No Go in sight. -/
import Derived.Test.YtgokinfejbefjaaDoorDistScript
namespace Go.Proofs.YtgokinfejbefjaaDoor.DM
set_option maxRecDepth 100000

/-- How long a way to the place i, j is that ends with step s; none if the step cannot end there. -/
def cand (a b : List UInt8) (s i j : Nat) : Option Nat :=
  match s with
  | 0 => if 1 ≤ i ∧ 1 ≤ j ∧ a[i - 1]? = b[j - 1]? then some (tab a b (i - 1) (j - 1)) else none
  | 1 => if 1 ≤ i ∧ 1 ≤ j then some (tab a b (i - 1) (j - 1) + 1) else none
  | 2 => if 1 ≤ i then some (tab a b (i - 1) j + 1) else none
  | 3 => if 1 ≤ j then some (tab a b i (j - 1) + 1) else none
  | 4 => if 2 ≤ i ∧ 2 ≤ j ∧ a[i - 2]? = b[j - 1]? ∧ a[i - 1]? = b[j - 2]? then some (tab a b (i - 2) (j - 2) + 1) else none
  | _ => none
/-- The shortest of so many of them. -/
def acc (a b : List UInt8) (i j : Nat) : Nat → Nat
  | 0 => i + j
  | s + 1 => match cand a b s i j with
    | some x => min (acc a b i j s) x
    | none => acc a b i j s

theorem tab_max (a b : List UInt8) (i j : Nat) : tab a b i j ≤ max i j := by
  unfold tab
  have := dist_max (a.take i) (b.take j)
  have h1 : (a.take i).length ≤ i := by rw [List.length_take]; omega
  have h2 : (b.take j).length ≤ j := by rw [List.length_take]; omega
  omega
theorem some_iff (a b : List UInt8) (i j : Nat) (hi : i < a.length) (hj : j < b.length) : a[i]? = b[j]? ↔ a[i] = b[j] := by
  rw [List.getElem?_eq_getElem hi, List.getElem?_eq_getElem hj, Option.some.injEq]

theorem acc_all (a b : List UInt8) (i j : Nat) (hi : i ≤ a.length) (hj : j ≤ b.length) : acc a b i j 5 = tab a b i j := by
  match i, j with
  | 0, 0 => simp [acc, cand, tab_left]
  | 0, j + 1 =>
    have e := tab_left a b j (by omega)
    have e2 := tab_left a b (j + 1) hj
    simp [acc, cand, e, e2]
  | i + 1, 0 =>
    have e := tab_top a b i (by omega)
    have e2 := tab_top a b (i + 1) hi
    simp [acc, cand, e, e2]
  | i + 1, j + 1 =>
    have hm := tab_max a b (i + 1) (j + 1)
    have hs := some_iff a b i j (by omega) (by omega)
    by_cases h0 : i = 0 ∨ j = 0
    · have hz := tab_base a b i j (by omega) (by omega) h0
      have h4 : cand a b 4 (i + 1) (j + 1) = none := by
        unfold cand
        simp only
        rw [if_neg (by omega)]
      simp only [acc, h4]
      simp only [cand, Nat.add_sub_cancel, hs]
      by_cases he : a[i] = b[j]
      · rw [if_pos he] at hz
        simp only [if_pos (show 1 ≤ i + 1 ∧ 1 ≤ j + 1 ∧ a[i] = b[j] from ⟨by omega, by omega, he⟩), if_pos (show 1 ≤ i + 1 ∧ 1 ≤ j + 1 from ⟨by omega, by omega⟩), if_pos (show 1 ≤ i + 1 by omega), if_pos (show 1 ≤ j + 1 by omega)]
        omega
      · rw [if_neg he] at hz
        simp only [if_neg (show ¬ (1 ≤ i + 1 ∧ 1 ≤ j + 1 ∧ a[i] = b[j]) from fun h => he h.2.2), if_pos (show 1 ≤ i + 1 ∧ 1 ≤ j + 1 from ⟨by omega, by omega⟩), if_pos (show 1 ≤ i + 1 by omega), if_pos (show 1 ≤ j + 1 by omega)]
        omega
    · obtain ⟨i, rfl⟩ : ∃ i', i = i' + 1 := ⟨i - 1, by omega⟩
      obtain ⟨j, rfl⟩ : ∃ j', j = j' + 1 := ⟨j - 1, by omega⟩
      have hz := tab_next a b i j (by omega) (by omega)
      simp only [show i + 2 = i + 1 + 1 from rfl, show j + 2 = j + 1 + 1 from rfl] at hz
      have hs1 := some_iff a b i (j + 1) (by omega) (by omega)
      have hs2 := some_iff a b (i + 1) j (by omega) (by omega)
      have h4 : cand a b 4 (i + 1 + 1) (j + 1 + 1) = if a[i + 1] = b[j] ∧ a[i] = b[j + 1] then some (tab a b i j + 1) else none := by
        show (if 2 ≤ i + 2 ∧ 2 ≤ j + 2 ∧ a[i]? = b[j + 1]? ∧ a[i + 1]? = b[j]? then some (tab a b i j + 1) else none) = _
        simp only [hs1, hs2]
        by_cases hx : a[i + 1] = b[j] ∧ a[i] = b[j + 1]
        · rw [if_pos hx, if_pos ⟨by omega, by omega, hx.2, hx.1⟩]
        · rw [if_neg hx, if_neg (fun h => hx ⟨h.2.2.2, h.2.2.1⟩)]
      simp only [acc, h4]
      simp only [cand, Nat.add_sub_cancel, hs]
      by_cases he : a[i + 1] = b[j + 1]
      · rw [if_pos he] at hz
        simp only [if_pos (show 1 ≤ i + 1 + 1 ∧ 1 ≤ j + 1 + 1 ∧ a[i + 1] = b[j + 1] from ⟨by omega, by omega, he⟩), if_pos (show 1 ≤ i + 1 + 1 ∧ 1 ≤ j + 1 + 1 from ⟨by omega, by omega⟩), if_pos (show 1 ≤ i + 1 + 1 by omega), if_pos (show 1 ≤ j + 1 + 1 by omega)]
        by_cases hx : a[i + 1] = b[j] ∧ a[i] = b[j + 1]
        · rw [if_pos hx] at hz
          simp only [if_pos hx]
          omega
        · rw [if_neg hx] at hz
          simp only [if_neg hx]
          omega
      · rw [if_neg he] at hz
        simp only [if_neg (show ¬ (1 ≤ i + 1 + 1 ∧ 1 ≤ j + 1 + 1 ∧ a[i + 1] = b[j + 1]) from fun h => he h.2.2), if_pos (show 1 ≤ i + 1 + 1 ∧ 1 ≤ j + 1 + 1 from ⟨by omega, by omega⟩), if_pos (show 1 ≤ i + 1 + 1 by omega), if_pos (show 1 ≤ j + 1 + 1 by omega)]
        by_cases hx : a[i + 1] = b[j] ∧ a[i] = b[j + 1]
        · rw [if_pos hx] at hz
          simp only [if_pos hx]
          omega
        · rw [if_neg hx] at hz
          simp only [if_neg hx]
          omega

theorem acc_le (a b : List UInt8) (i j : Nat) : ∀ s, acc a b i j s ≤ i + j
  | 0 => Nat.le_refl _
  | s + 1 => by
    have := acc_le a b i j s
    unfold acc
    split <;> omega
theorem acc_some {a b : List UInt8} {i j s v : Nat} (h : cand a b s i j = some v) : acc a b i j (s + 1) = min (acc a b i j s) v := by
  rw [acc, h]
theorem acc_none {a b : List UInt8} {i j s : Nat} (h : cand a b s i j = none) : acc a b i j (s + 1) = acc a b i j s := by
  rw [acc, h]
end Go.Proofs.YtgokinfejbefjaaDoor.DM
