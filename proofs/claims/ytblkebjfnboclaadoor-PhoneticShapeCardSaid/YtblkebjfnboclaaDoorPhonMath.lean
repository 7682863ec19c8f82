/- Layer 6 in plain lists of bytes: the digit of a letter, the digits that a code runs through, the letters of a skeleton; doubling, silent letters, shapes. No Go in sight. -/
import Derived.Test.YtblkebjfnboclaaDoorTextMath
namespace Go.Proofs.YtblkebjfnboclaaDoor.PM
set_option maxRecDepth 100000

/-- The digit of a letter as a byte; 0 for a vowel (and for what is no letter), 1 for h and w. -/
def dig (c : UInt8) : Nat :=
  let n := c.toNat
  if n = 98 ∨ n = 102 ∨ n = 112 ∨ n = 118 then 49
  else if n = 99 ∨ n = 103 ∨ n = 106 ∨ n = 107 ∨ n = 113 ∨ n = 115 ∨ n = 120 ∨ n = 122 then 50
  else if n = 100 ∨ n = 116 then 51
  else if n = 108 then 52
  else if n = 109 ∨ n = 110 then 53
  else if n = 114 then 54
  else if n = 104 ∨ n = 119 then 1 else 0

theorem dig_vals (c : UInt8) : dig c = 0 ∨ dig c = 1 ∨ (49 ≤ dig c ∧ dig c ≤ 54) := by
  unfold dig
  dsimp only
  repeat' split
  all_goals omega

/-- The byte that stands for a digit in the program's own words. -/
def pd (d : Nat) : Nat := if d = 0 then 118 else if d = 1 then 115 else d

theorem pd_cases (c : UInt8) : (dig c = 0 ∧ pd (dig c) = 118) ∨ (dig c = 1 ∧ pd (dig c) = 115) ∨ (49 ≤ dig c ∧ dig c ≤ 54 ∧ pd (dig c) = dig c) := by
  have h := dig_vals c
  unfold pd
  repeat' split
  all_goals omega

/-- The digits behind a letter whose digit is 'last'. -/
def run (last : Nat) : List UInt8 → List UInt8
  | [] => []
  | c :: t => if dig c = 1 then run last t else if dig c = last then run last t else if 1 < dig c then UInt8.ofNat (dig c) :: run (dig c) t else run (dig c) t

/-- The code of a token. -/
def code : List UInt8 → List UInt8
  | [] => []
  | c :: t => ((c :: run (dig c) t) ++ [48, 48, 48]).take 4

/-- The letters behind one that was written last. -/
def bones (prev : UInt8) : List UInt8 → List UInt8
  | [] => []
  | c :: t => if 1 < dig c ∧ c ≠ prev then c :: bones c t else bones prev t

def skel : List UInt8 → List UInt8
  | [] => []
  | c :: t => (c :: bones c t).take 6

/-- A token. -/
def tok (l : List UInt8) : Bool := decide (1 ≤ l.length) && decide (l.length ≤ 64) && l.all TM.lower

theorem tok_iff (l : List UInt8) : tok l = true ↔ 1 ≤ l.length ∧ l.length ≤ 64 ∧ l.all TM.lower = true := by
  unfold tok
  simp [and_assoc]

/-- The digit that counts behind a list. -/
def lastOf (last : Nat) : List UInt8 → Nat
  | [] => last
  | c :: t => lastOf (if dig c = 1 then last else dig c) t
theorem run_append (a b : List UInt8) : ∀ last, run last (a ++ b) = run last a ++ run (lastOf last a) b := by
  induction a with
  | nil => intro last; simp [run, lastOf]
  | cons c t ih =>
    intro last
    simp only [List.cons_append, run, lastOf]
    by_cases h1 : dig c = 1
    · rw [if_pos h1, if_pos h1, if_pos h1, ih]
    · rw [if_neg h1, if_neg h1, if_neg h1]
      by_cases h2 : dig c = last
      · rw [if_pos h2, if_pos h2, ih, h2]
      · rw [if_neg h2, if_neg h2]
        by_cases h3 : 1 < dig c
        · rw [if_pos h3, if_pos h3, ih, List.cons_append]
        · rw [if_neg h3, if_neg h3, ih]

theorem run_same (c : UInt8) (t : List UInt8) : run (dig c) (c :: t) = run (dig c) t := by
  rw [run]
  by_cases h1 : dig c = 1
  · rw [if_pos h1]
  · rw [if_neg h1, if_pos rfl]
theorem run_twice (last : Nat) (c : UInt8) (t : List UInt8) : run last (c :: c :: t) = run last (c :: t) := by
  rw [run]
  by_cases h1 : dig c = 1
  · rw [if_pos h1]
  · rw [if_neg h1]
    by_cases h2 : dig c = last
    · rw [if_pos h2]
    · rw [if_neg h2, run_same, run, if_neg h1, if_neg h2]
theorem run_silent (last : Nat) (h t : List UInt8) (hs : ∀ c ∈ h, dig c = 1) : run last (h ++ t) = run last t := by
  induction h with
  | nil => rfl
  | cons c u ih =>
    rw [List.cons_append, run, if_pos (hs c (by simp)), ih (fun x hx => hs x (by simp [hx]))]

def prevOf (prev : UInt8) : List UInt8 → UInt8
  | [] => prev
  | c :: t => prevOf (if 1 < dig c then c else prev) t
theorem bones_append (a b : List UInt8) : ∀ prev, bones prev (a ++ b) = bones prev a ++ bones (prevOf prev a) b := by
  induction a with
  | nil => intro prev; simp [bones, prevOf]
  | cons c t ih =>
    intro prev
    simp only [List.cons_append, bones, prevOf]
    by_cases h1 : 1 < dig c
    · by_cases h2 : c = prev
      · rw [if_neg (fun h => h.2 h2), if_neg (fun h => h.2 h2), if_pos h1, ih, h2]
      · rw [if_pos ⟨h1, h2⟩, if_pos ⟨h1, h2⟩, if_pos h1, ih, List.cons_append]
    · rw [if_neg (fun h => h1 h.1), if_neg (fun h => h1 h.1), if_neg h1, ih]
theorem bones_same (c : UInt8) (t : List UInt8) : bones c (c :: t) = bones c t := by
  rw [bones, if_neg (fun h => h.2 rfl)]
theorem bones_twice (prev c : UInt8) (t : List UInt8) : bones prev (c :: c :: t) = bones prev (c :: t) := by
  by_cases h : 1 < dig c ∧ c ≠ prev
  · rw [bones, if_pos h, bones_same]
    rw [bones, if_pos h]
  · rw [bones, if_neg h]
theorem bones_silent (prev : UInt8) (h t : List UInt8) (hs : ∀ c ∈ h, dig c ≤ 1) : bones prev (h ++ t) = bones prev t := by
  induction h with
  | nil => rfl
  | cons c u ih =>
    have := hs c (by simp)
    rw [List.cons_append, bones, if_neg (fun h => by omega), ih (fun x hx => hs x (by simp [hx]))]

/-- A letter that stands at place k is doubled. -/
theorem code_double (l : List UInt8) (k : Nat) (h : k < l.length) : code (l.take k ++ [l[k]] ++ l.drop k) = code l := by
  match l, k, h with
  | c :: t, 0, _ =>
    simp only [List.take_zero, List.drop_zero, List.nil_append, List.getElem_cons_zero, List.singleton_append, code, run_same]
  | c :: t, k + 1, h =>
    have h : k < t.length := by simpa using h
    simp only [List.take_succ_cons, List.drop_succ_cons, List.getElem_cons_succ, List.cons_append, code]
    congr 3
    have e : run (dig c) t = run (dig c) (t.take k ++ t.drop k) := by rw [List.take_append_drop]
    rw [e, List.append_assoc, List.drop_eq_getElem_cons h, List.singleton_append, run_append, run_twice, run_append]
theorem skel_double (l : List UInt8) (k : Nat) (h : k < l.length) : skel (l.take k ++ [l[k]] ++ l.drop k) = skel l := by
  match l, k, h with
  | c :: t, 0, _ =>
    simp only [List.take_zero, List.drop_zero, List.nil_append, List.getElem_cons_zero, List.singleton_append, skel, bones_same]
  | c :: t, k + 1, h =>
    have h : k < t.length := by simpa using h
    simp only [List.take_succ_cons, List.drop_succ_cons, List.getElem_cons_succ, List.cons_append, skel]
    congr 2
    have e : bones c t = bones c (t.take k ++ t.drop k) := by rw [List.take_append_drop]
    rw [e, List.append_assoc, List.drop_eq_getElem_cons h, List.singleton_append, bones_append, bones_twice, bones_append]

/-- Silent letters behind the first letter. -/
theorem code_silent (l m : List UInt8) (k : Nat) (hk : 1 ≤ k) (h : k ≤ l.length) (hs : ∀ c ∈ m, dig c = 1) : code (l.take k ++ m ++ l.drop k) = code l := by
  match l, k, hk, h with
  | [], k, hk, h => simp at h; omega
  | c :: t, k + 1, _, h =>
    simp only [List.take_succ_cons, List.drop_succ_cons, List.cons_append, code]
    congr 3
    have e : run (dig c) t = run (dig c) (t.take k ++ t.drop k) := by rw [List.take_append_drop]
    rw [e, List.append_assoc, run_append, run_silent _ _ _ hs, run_append]
theorem skel_silent (l m : List UInt8) (k : Nat) (hk : 1 ≤ k) (h : k ≤ l.length) (hs : ∀ c ∈ m, dig c ≤ 1) : skel (l.take k ++ m ++ l.drop k) = skel l := by
  match l, k, hk, h with
  | [], k, hk, h => simp at h; omega
  | c :: t, k + 1, _, h =>
    simp only [List.take_succ_cons, List.drop_succ_cons, List.cons_append, skel]
    congr 2
    have e : bones c t = bones c (t.take k ++ t.drop k) := by rw [List.take_append_drop]
    rw [e, List.append_assoc, bones_append, bones_silent _ _ _ hs, bones_append]

/-- The shape of a code. -/
theorem run_digits (l : List UInt8) : ∀ last, ∀ d ∈ run last l, 49 ≤ d.toNat ∧ d.toNat ≤ 54 := by
  induction l with
  | nil => intro last d hd; simp [run] at hd
  | cons c t ih =>
    intro last d hd
    rw [run] at hd
    by_cases h1 : dig c = 1
    · rw [if_pos h1] at hd; exact ih _ d hd
    · rw [if_neg h1] at hd
      by_cases h2 : dig c = last
      · rw [if_pos h2] at hd; exact ih _ d hd
      · rw [if_neg h2] at hd
        by_cases h3 : 1 < dig c
        · rw [if_pos h3] at hd
          rcases List.mem_cons.1 hd with rfl | hd
          · have := dig_vals c
            rw [UInt8.toNat_ofNat']
            omega
          · exact ih _ d hd
        · rw [if_neg h3] at hd; exact ih _ d hd

theorem code_shape (c : UInt8) (t : List UInt8) : ∃ a b d : UInt8, code (c :: t) = [c, a, b, d] ∧ (48 ≤ a.toNat ∧ a.toNat ≤ 54) ∧ (48 ≤ b.toNat ∧ b.toNat ≤ 54) ∧ (48 ≤ d.toNat ∧ d.toNat ≤ 54) ∧ (a.toNat = 48 → b.toNat = 48) ∧ (b.toNat = 48 → d.toNat = 48) := by
  have h := run_digits t (dig c)
  have z : (48 : UInt8).toNat = 48 := rfl
  simp only [code]
  match he : run (dig c) t with
  | [] => exact ⟨48, 48, 48, rfl, by omega, by omega, by omega, fun _ => rfl, fun _ => rfl⟩
  | [a] =>
    rw [he] at h
    have ha := h a (by simp)
    exact ⟨a, 48, 48, rfl, by omega, by omega, by omega, fun _ => rfl, fun _ => rfl⟩
  | [a, b] =>
    rw [he] at h
    have ha := h a (by simp)
    have hb := h b (by simp)
    exact ⟨a, b, 48, rfl, by omega, by omega, by omega, fun e => by omega, fun _ => rfl⟩
  | a :: b :: d :: u =>
    rw [he] at h
    have ha := h a (by simp)
    have hb := h b (by simp)
    have hd := h d (by simp)
    exact ⟨a, b, d, rfl, by omega, by omega, by omega, fun e => by omega, fun e => by omega⟩

theorem bones_lower (l : List UInt8) (hl : l.all TM.lower = true) : ∀ prev, (bones prev l).all TM.lower = true := by
  induction l with
  | nil => intro prev; rfl
  | cons c t ih =>
    intro prev
    rw [List.all_cons, Bool.and_eq_true] at hl
    rw [bones]
    split
    · rw [List.all_cons, hl.1, ih hl.2]; rfl
    · exact ih hl.2 _
theorem skel_lower (l : List UInt8) (hl : l.all TM.lower = true) : (skel l).all TM.lower = true := by
  match l, hl with
  | [], _ => rfl
  | c :: t, hl =>
    rw [List.all_cons, Bool.and_eq_true] at hl
    have h : (c :: bones c t).all TM.lower = true := by rw [List.all_cons, hl.1, bones_lower t hl.2]; rfl
    rw [List.all_eq_true] at h ⊢
    intro x hx
    exact h x (List.mem_of_mem_take hx)
theorem bones_apart (l : List UInt8) : ∀ (prev : UInt8) (k : Nat) (h : k + 1 < (prev :: bones prev l).length), (prev :: bones prev l)[k + 1] ≠ (prev :: bones prev l)[k] := by
  induction l with
  | nil => intro prev k h; simp [bones] at h
  | cons c t ih =>
    intro prev k h
    by_cases hc : 1 < dig c ∧ c ≠ prev
    · have e : bones prev (c :: t) = c :: bones c t := by rw [bones, if_pos hc]
      simp only [e] at h ⊢
      match k, h with
      | 0, _ => simpa using hc.2
      | k + 1, h =>
        simp only [List.getElem_cons_succ]
        exact ih c k (by simpa using h)
    · have e : bones prev (c :: t) = bones prev t := by rw [bones, if_neg hc]
      simp only [e] at h ⊢
      exact ih prev k h
theorem skel_apart (l : List UInt8) (k : Nat) (h : k + 1 < (skel l).length) : (skel l)[k + 1] ≠ (skel l)[k] := by
  match l, h with
  | [], h => simp [skel] at h
  | c :: t, h =>
    simp only [skel, List.getElem_take]
    exact bones_apart t c k _
theorem skel_length (c : UInt8) (t : List UInt8) : 1 ≤ (skel (c :: t)).length ∧ (skel (c :: t)).length ≤ 6 := by
  simp only [skel, List.length_take, List.length_cons]
  omega
theorem skel_head (c : UInt8) (t : List UInt8) : (skel (c :: t)).take 1 = [c] := by
  simp [skel]
end Go.Proofs.YtblkebjfnboclaaDoor.PM
