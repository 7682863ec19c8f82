/- Layer 9 in plain words: arrays of bits as lists of words, their bits, counts, texts. No Go in sight. -/
import Init.Data.List.Lemmas
namespace Go.Proofs.Ytfcnodiepdnegaa.BM
set_option linter.unusedVariables false
set_option maxRecDepth 100000

/-- A number is the length of a valid array. -/
def lenB (n : Int) : Bool := decide (64 ≤ n) && (decide (n ≤ 512) && decide (n % 64 = 0))
def okB (L : Int) (l : List UInt64) : Bool := lenB L && decide ((l.length : Int) = L / 64)
def bitW (x : UInt64) (j : Nat) : Bool := x.toNat.testBit j
def bitL (l : List UInt64) (i : Nat) : Bool := bitW (l.getD (i / 64) 0) (i % 64)
def hasM (L : Int) (l : List UInt64) (i : Int) : Bool := okB L l && (decide (0 ≤ i) && (decide (i < L) && bitL l i.toNat))
def cnt (p : Nat → Bool) : Nat → Nat
  | 0 => 0
  | n + 1 => cnt p n + (p n).toNat
def countM (L : Int) (l : List UInt64) : Nat := if okB L l then cnt (bitL l) L.toNat else 0
/-- What functions return that make an array: the error's number, the length, the words. -/
abbrev Out := Int × Int × List UInt64
def newM (n : Int) : Out := if lenB n then (0, n, List.replicate (n / 64).toNat 0) else (2, 0, [])
def setW (l : List UInt64) (i : Nat) : List UInt64 := l.set (i / 64) (l.getD (i / 64) 0 ||| ((1 : UInt64) <<< (i % 64).toUInt64))
def setM (L : Int) (l : List UInt64) (i : Int) : Out := if okB L l then (if 0 ≤ i ∧ i < L then (0, L, setW l i.toNat) else (2, 0, [])) else (8, 0, [])
def combM (f : UInt64 → UInt64 → UInt64) (L : Int) (l : List UInt64) (L' : Int) (l' : List UInt64) : Out :=
  if okB L l && (okB L' l' && decide (L = L')) then (0, L, List.zipWith f l l') else (8, 0, [])
def foldW (l : List UInt64) : List UInt64 := List.zipWith (· ^^^ ·) (l.take (l.length / 2)) (l.drop (l.length / 2))
def foldM (L : Int) (l : List UInt64) : Out := if okB L l then (if L % 128 = 0 then (0, L / 2, foldW l) else (2, 0, [])) else (8, 0, [])
def ordM (a b : Int) : Int := if a < b then -1 else if b < a then 1 else 0
def lexM : List UInt64 → List UInt64 → Int
  | x :: l, y :: l' => if x.toNat < y.toNat then -1 else if y.toNat < x.toNat then 1 else lexM l l'
  | _, _ => 0
def cmpM (L : Int) (l : List UInt64) (L' : Int) (l' : List UInt64) : Int :=
  if ordM L L' = 0 then (if ordM l.length l'.length = 0 then lexM l l' else ordM l.length l'.length) else ordM L L'
def dig (k : Nat) : UInt8 := if k < 10 then UInt8.ofNat (48 + k) else UInt8.ofNat (87 + k)
/-- The digit of four bits of a word: the one with the number k from above. -/
def nib (x : UInt64) (k : Nat) : Nat := x.toNat / 2 ^ (60 - 4 * k) % 16
def hexW (x : UInt64) : List UInt8 := (List.range 16).map fun k => dig (nib x k)
def hexL (l : List UInt64) : List UInt8 := l.flatMap hexW
def undig (c : UInt8) : Option Nat := if 48 ≤ c.toNat ∧ c.toNat ≤ 57 then some (c.toNat - 48) else if 97 ≤ c.toNat ∧ c.toNat ≤ 102 then some (c.toNat - 87) else none
/-- Digits read one by one onto a number. -/
def readN (a : Nat) : List UInt8 → Option Nat
  | [] => some a
  | c :: s => match undig c with
    | some d => readN (a * 16 + d) s
    | none => none
def readL : Nat → List UInt8 → Option (List UInt64)
  | 0, _ => some []
  | n + 1, s => match readN 0 (s.take 16) with
    | some x => (readL n (s.drop 16)).map (UInt64.ofNat x :: ·)
    | none => none
def parseM (s : List UInt8) : Out :=
  if decide (s.length % 16 = 0) && lenB (4 * s.length) then
    match readL (s.length / 16) s with
    | some l => (0, 4 * s.length, l)
    | none => (14, 0, [])
  else (14, 0, [])

theorem ordM_self (a : Int) : ordM a a = 0 := by unfold ordM; simp
theorem lexM_self (l : List UInt64) : lexM l l = 0 := by
  induction l with
  | nil => rfl
  | cons x l ih => simp [lexM, ih]
theorem cmpM_self (L : Int) (l : List UInt64) : cmpM L l L l = 0 := by
  unfold cmpM
  simp [ordM_self, lexM_self]
theorem ordM_neg (a b : Int) : ordM a b = - ordM b a := by
  unfold ordM
  split <;> split <;> omega
theorem lexM_neg (l l' : List UInt64) : lexM l l' = - lexM l' l := by
  induction l generalizing l' with
  | nil => cases l' <;> rfl
  | cons x l ih =>
    cases l' with
    | nil => rfl
    | cons y l' =>
      simp only [lexM]
      split
      · rw [if_neg (by omega)]
      · split
        · omega
        · exact ih l'
theorem cmpM_neg (L : Int) (l : List UInt64) (L' : Int) (l' : List UInt64) : cmpM L l L' l' = - cmpM L' l' L l := by
  have h1 := ordM_neg L L'
  have h2 := ordM_neg l.length l'.length
  have h3 := lexM_neg l l'
  unfold cmpM
  split <;> split <;> (try split) <;> (try split) <;> omega

theorem cnt_le (p q : Nat → Bool) (n : Nat) (h : ∀ i, i < n → p i = true → q i = true) : cnt p n ≤ cnt q n := by
  induction n with
  | zero => exact Nat.le_refl _
  | succ n ih =>
    have h1 := ih fun i hi => h i (by omega)
    have h2 := h n (by omega)
    unfold cnt
    cases hp : p n <;> cases hq : q n <;> simp_all <;> omega
theorem cnt_congr (p q : Nat → Bool) (n : Nat) (h : ∀ i, i < n → p i = q i) : cnt p n = cnt q n := by
  induction n with
  | zero => rfl
  | succ n ih => unfold cnt; rw [ih fun i hi => h i (by omega), h n (by omega)]
theorem cnt_and_or (p q : Nat → Bool) (n : Nat) : cnt (fun i => p i && q i) n + cnt (fun i => p i || q i) n = cnt p n + cnt q n := by
  induction n with
  | zero => rfl
  | succ n ih =>
    unfold cnt
    cases p n <;> cases q n <;> simp <;> omega
theorem cnt_xor (p q : Nat → Bool) (n : Nat) : cnt (fun i => p i ^^ q i) n + cnt (fun i => p i && q i) n = cnt (fun i => p i || q i) n := by
  induction n with
  | zero => rfl
  | succ n ih =>
    unfold cnt
    cases p n <;> cases q n <;> simp <;> omega
theorem cnt_bound (p : Nat → Bool) (n : Nat) : cnt p n ≤ n := by
  induction n with
  | zero => exact Nat.le_refl _
  | succ n ih => unfold cnt; cases p n <;> simp <;> omega

theorem bitW_and (x y : UInt64) (j : Nat) : bitW (x &&& y) j = (bitW x j && bitW y j) := by unfold bitW; rw [UInt64.toNat_and, Nat.testBit_and]
theorem bitW_or (x y : UInt64) (j : Nat) : bitW (x ||| y) j = (bitW x j || bitW y j) := by unfold bitW; rw [UInt64.toNat_or, Nat.testBit_or]
theorem bitW_xor (x y : UInt64) (j : Nat) : bitW (x ^^^ y) j = (bitW x j ^^ bitW y j) := by unfold bitW; rw [UInt64.toNat_xor, Nat.testBit_xor]
theorem one_shl (k : Nat) (hk : k < 64) : ((1 : UInt64) <<< k.toUInt64).toNat = 2 ^ k := by
  rw [UInt64.toNat_shiftLeft]
  have e : k.toUInt64.toNat = k := by
    show k % 18446744073709551616 = k
    omega
  rw [e, Nat.mod_eq_of_lt (show k < 64 from hk), Nat.shiftLeft_eq, show (1 : UInt64).toNat = 1 from rfl, Nat.one_mul]
  exact Nat.mod_eq_of_lt (Nat.pow_lt_pow_right (by decide) hk)
theorem bitW_one (j k : Nat) (hk : k < 64) : bitW ((1 : UInt64) <<< k.toUInt64) j = decide (k = j) := by
  unfold bitW
  rw [one_shl k hk, Nat.testBit_two_pow]
theorem zip_get (f : UInt64 → UInt64 → UInt64) (l l' : List UInt64) (h : l.length = l'.length) (k : Nat) (hk : k < l.length) : (List.zipWith f l l').getD k 0 = f (l.getD k 0) (l'.getD k 0) := by
  rw [List.getD_eq_getElem?_getD, List.getD_eq_getElem?_getD, List.getD_eq_getElem?_getD, List.getElem?_zipWith, List.getElem?_eq_getElem hk, List.getElem?_eq_getElem (by omega : k < l'.length)]
  rfl
theorem bitL_zip (f : UInt64 → UInt64 → UInt64) (g : Bool → Bool → Bool) (hf : ∀ x y j, bitW (f x y) j = g (bitW x j) (bitW y j)) (l l' : List UInt64) (h : l.length = l'.length) (i : Nat) (hi : i < 64 * l.length) :
    bitL (List.zipWith f l l') i = g (bitL l i) (bitL l' i) := by
  unfold bitL
  rw [zip_get f l l' h (i / 64) (by omega), hf]
theorem okB_iff {L : Int} {l : List UInt64} : okB L l = true ↔ (1 ≤ l.length ∧ l.length ≤ 8 ∧ L = 64 * (l.length : Int)) := by
  unfold okB lenB
  simp only [Bool.and_eq_true, decide_eq_true_eq]
  omega
theorem bitL_set (l : List UInt64) (i k : Nat) (hi : i < 64 * l.length) : bitL (setW l i) k = (bitL l k || decide (i = k)) := by
  unfold bitL setW
  by_cases h : i / 64 = k / 64
  · rw [← h, List.getD_eq_getElem?_getD, List.getElem?_set_self (by omega : i / 64 < l.length), Option.getD_some, bitW_or, bitW_one _ _ (Nat.mod_lt _ (by decide))]
    congr 1
    simp only [decide_eq_decide]
    omega
  · rw [List.getD_eq_getElem?_getD, List.getElem?_set_ne h, ← List.getD_eq_getElem?_getD]
    have : decide (i = k) = false := by
      simp only [decide_eq_false_iff_not]
      intro e
      exact h (by rw [e])
    rw [this, Bool.or_false]
theorem setW_len (l : List UInt64) (i : Nat) : (setW l i).length = l.length := by unfold setW; simp
theorem setW_at (l : List UInt64) (i : Nat) (hi : i < 64 * l.length) : (setW l i).getD (i / 64) 0 = l.getD (i / 64) 0 ||| ((1 : UInt64) <<< (i % 64).toUInt64) := by
  unfold setW
  rw [List.getD_eq_getElem?_getD, List.getElem?_set_self (by omega : i / 64 < l.length), Option.getD_some]
theorem setW_again (l : List UInt64) (i : Nat) (hi : i < 64 * l.length) : setW (setW l i) i = setW l i := by
  have e : setW (setW l i) i = (setW l i).set (i / 64) ((setW l i).getD (i / 64) 0 ||| ((1 : UInt64) <<< (i % 64).toUInt64)) := rfl
  rw [e, setW_at l i hi, UInt64.or_assoc, UInt64.or_self]
  unfold setW
  rw [List.set_set]
theorem foldW_len (l : List UInt64) : (foldW l).length = l.length / 2 := by unfold foldW; simp; omega
theorem bitL_fold (l : List UInt64) (h2 : l.length % 2 = 0) (i : Nat) (hi : i < 64 * (l.length / 2)) : bitL (foldW l) i = (bitL l i ^^ bitL l (i + 64 * (l.length / 2))) := by
  unfold foldW
  have hl : (l.take (l.length / 2)).length = l.length / 2 := by rw [List.length_take]; omega
  rw [bitL_zip (· ^^^ ·) (· ^^ ·) bitW_xor _ _ (by rw [List.length_take, List.length_drop]; omega) i (by omega)]
  congr 1
  · unfold bitL
    rw [List.getD_eq_getElem?_getD, List.getElem?_take_of_lt (by omega), ← List.getD_eq_getElem?_getD]
  · unfold bitL
    rw [List.getD_eq_getElem?_getD, List.getElem?_drop, ← List.getD_eq_getElem?_getD]
    congr 1
    · congr 1
      omega
    · omega
theorem xor_back (l l' : List UInt64) (h : l.length = l'.length) : List.zipWith (· ^^^ ·) (List.zipWith (· ^^^ ·) l l') l' = l := by
  induction l generalizing l' with
  | nil => simp
  | cons x l ih =>
    cases l' with
    | nil => simp at h
    | cons y l' =>
      simp only [List.zipWith_cons_cons]
      rw [ih l' (by simpa using h), UInt64.xor_assoc, UInt64.xor_self, UInt64.xor_zero]
end Go.Proofs.Ytfcnodiepdnegaa.BM
