/- Layer 2 in plain lists: what tokens, lists of them and rules of replacement are, and what they make of names. -/
import Derived.Test.YthplnfblpdojkaaDoorTextRef3
import Derived.Test.YthplnfblpdojkaaDoorLawMath
namespace Go.Proofs.YthplnfblpdojkaaDoor
set_option linter.unusedVariables false

def hasB (xs : List ByteArray) (x : ByteArray) : Bool := xs.any fun y => y.toList == x.toList
def tokB (s : ByteArray) : Bool := !s.toList.isEmpty && (decide (s.size ≤ 64) && s.data.toList.all TM.lower)
/-- The second text is not greater than the first one. -/
def geS (a b : ByteArray) : Bool := !Op.bytesLess a.toList b.toList
theorem bytes_total : ∀ a b : List UInt8, (Op.bytesLess b a || b == a) = !Op.bytesLess a b
  | [], [] => rfl
  | [], _ :: _ => rfl
  | _ :: _, [] => rfl
  | x :: xs, y :: ys => by
    have ih := bytes_total xs ys
    simp only [Op.bytesLess, List.cons_beq_cons]
    by_cases h1 : x < y
    · have h2 : ¬ y < x := fun h => by rw [UInt8.lt_iff_toNat_lt] at *; omega
      have h3 : (y == x) = false := by rw [beq_eq_false_iff_ne]; rintro rfl; exact h2 h1
      simp [h1, h2, h3]
    · by_cases h2 : y < x
      · have h3 : (x == y) = false := by rw [beq_eq_false_iff_ne]; rintro rfl; exact h1 h2
        simp [h1, h2, h3]
      · have h3 : x = y := by
          rw [UInt8.lt_iff_toNat_lt] at *
          exact TM.u8_ext (by omega)
        subst h3
        simp [h1, ih]
theorem geS_total (a b : ByteArray) : geS a b = (Op.bytesLess b.toList a.toList || b.toList == a.toList) := (bytes_total _ _).symm
def noB : ByteArray := ⟨#[]⟩
def orderAt (xs : List ByteArray) (j : Nat) : Bool := j == 0 || !geS (xs.getD (j - 1) noB) (xs.getD j noB)
def tokAt (xs : List ByteArray) (j : Nat) : Bool := tokB (xs.getD j noB)
/-- Tokens, ascending. -/
def areTokB (xs : List ByteArray) : Bool := decide (∀ j, j < xs.length → (tokAt xs j && orderAt xs j) = true)
def ascB (xs : List ByteArray) : Bool := decide (∀ j, j < xs.length → orderAt xs j = true)
def froms (ps : List (ByteArray × ByteArray)) : List ByteArray := ps.map (·.1)
def toAt (ps : List (ByteArray × ByteArray)) (p : ByteArray × ByteArray) : Bool := tokB p.2 && !hasB (froms ps) p.2
def arePairsB (ps : List (ByteArray × ByteArray)) : Bool := areTokB (froms ps) && ps.all (toAt ps)

structure RL where
  titles : List ByteArray
  nicks : List (ByteArray × ByteArray)
  streets : List (ByteArray × ByteArray)

def makesB (r : RL) : Bool := r.nicks.any fun p => hasB r.titles p.2
def longB (r : RL) : Bool := decide (32 < r.titles.length) || (decide (32 < r.nicks.length) || decide (32 < r.streets.length))
def rightB (r : RL) : Bool := areTokB r.titles && (arePairsB r.nicks && (arePairsB r.streets && !makesB r))
/-- The first error of rules. -/
def checkV (r : RL) : Int := if longB r then 1 else if rightB r then 0 else 5
def canonB (ps : List (ByteArray × ByteArray)) (t : ByteArray) : ByteArray := match ps.find? (fun p => p.1.toList == t.toList) with | some p => p.2 | none => t
/-- What one token of a folded name becomes. -/
def lettersOf (t : List UInt8) : ByteArray := bs (t.filter TM.lower)
def left1 (r : RL) (t : List UInt8) : List ByteArray := if !(lettersOf t).toList.isEmpty && !hasB r.titles (lettersOf t) then [canonB r.nicks (lettersOf t)] else []
def leftB (r : RL) (ts : List (List UInt8)) : List ByteArray := ts.flatMap (left1 r)
def normToks (r : RL) (s : ByteArray) : List ByteArray := leftB r (TM.words [] (TM.fold s.data.toList))
def normTxt (r : RL) (s : ByteArray) : ByteArray := bs (TM.join ((normToks r s).map (·.data.toList)))
/-- The normal form of a name, and the error. -/
def normVal (r : RL) (s : ByteArray) : ByteArray × Int :=
  if checkV r ≠ 0 then (noB, checkV r) else if validB s = false then (noB, 3)
  else if 6 < (normToks r s).length ∨ 64 < (normTxt r s).size then (noB, 1) else (normTxt r s, 0)
def normalB (r : RL) (s : ByteArray) : Bool := (normVal r s).2 == 0 && (normVal r s).1.toList == s.toList

theorem eqS_iff (a b : ByteArray) : (a.toList == b.toList) = true ↔ a = b := by
  rw [beq_iff_eq, Lib.toList_data, Lib.toList_data]
  refine ⟨fun h => ?_, fun h => by rw [h]⟩
  cases a; cases b
  congr 1
  exact Array.toList_inj.1 h
theorem hasB_iff (xs : List ByteArray) (x : ByteArray) : hasB xs x = true ↔ x ∈ xs := by
  unfold hasB
  rw [List.any_eq_true]
  constructor
  · rintro ⟨y, hy, he⟩
    rw [eqS_iff] at he
    exact he ▸ hy
  · intro h
    exact ⟨x, h, (eqS_iff x x).2 rfl⟩
theorem hasB_drop (xs : List ByteArray) (x : ByteArray) (k : Nat) (h : k < xs.length) : hasB (xs.drop k) x = ((xs[k].toList == x.toList) || hasB (xs.drop (k + 1)) x) := by
  rw [List.drop_eq_getElem_cons h]; rfl
theorem canonB_drop (ps : List (ByteArray × ByteArray)) (t : ByteArray) (k : Nat) (h : k < ps.length) : canonB (ps.drop k) t = if ps[k].1.toList == t.toList then ps[k].2 else canonB (ps.drop (k + 1)) t := by
  rw [List.drop_eq_getElem_cons h]
  unfold canonB
  rw [List.find?_cons]
  cases ps[k].1.toList == t.toList <;> rfl
theorem canonB_nil (t : ByteArray) : canonB [] t = t := rfl
theorem areTok_not (xs : List ByteArray) (k : Nat) (h : k < xs.length) (hf : (tokAt xs k && orderAt xs k) = false) : areTokB xs = false := by
  unfold areTokB
  rw [decide_eq_false_iff_not]
  intro hh
  rw [hh k h] at hf
  cases hf
theorem areTok_yes (xs : List ByteArray) (h : ∀ j, j < xs.length → (tokAt xs j && orderAt xs j) = true) : areTokB xs = true := decide_eq_true h
theorem asc_not (xs : List ByteArray) (k : Nat) (h : k < xs.length) (hf : orderAt xs k = false) : ascB xs = false := by
  unfold ascB
  rw [decide_eq_false_iff_not]
  intro hh
  rw [hh k h] at hf
  cases hf
theorem asc_yes (xs : List ByteArray) (h : ∀ j, j < xs.length → orderAt xs j = true) : ascB xs = true := decide_eq_true h
theorem tokAt_is (xs : List ByteArray) (k : Nat) (h : k < xs.length) : tokAt xs k = tokB xs[k] := by
  unfold tokAt
  rw [List.getD_eq_getElem?_getD, List.getElem?_eq_getElem h]; rfl
theorem orderAt_zero (xs : List ByteArray) : orderAt xs 0 = true := rfl
theorem orderAt_is (xs : List ByteArray) (k : Nat) (h0 : 0 < k) (h : k < xs.length) : orderAt xs k = !geS (xs[k - 1]'(by omega)) xs[k] := by
  unfold orderAt
  rw [List.getD_eq_getElem?_getD, List.getElem?_eq_getElem (show k - 1 < xs.length by omega), List.getD_eq_getElem?_getD, List.getElem?_eq_getElem h]
  have : (k == 0) = false := by simp; omega
  rw [this]; rfl
/-- Tokens, and ascending. -/
theorem areTok_split (xs : List ByteArray) : areTokB xs = (xs.all tokB && ascB xs) := by
  rw [Bool.eq_iff_iff]
  unfold areTokB ascB
  rw [Bool.and_eq_true, List.all_eq_true, decide_eq_true_iff, decide_eq_true_iff]
  constructor
  · intro h
    refine ⟨fun x hx => ?_, fun j hj => ?_⟩
    · obtain ⟨k, hk, rfl⟩ := List.mem_iff_getElem.1 hx
      have := h k hk
      rw [Bool.and_eq_true, tokAt_is xs k hk] at this
      exact this.1
    · have := h j hj
      rw [Bool.and_eq_true] at this
      exact this.2
  · rintro ⟨h1, h2⟩ j hj
    rw [Bool.and_eq_true, tokAt_is xs j hj]
    exact ⟨h1 _ (List.getElem_mem hj), h2 j hj⟩
end Go.Proofs.YthplnfblpdojkaaDoor
