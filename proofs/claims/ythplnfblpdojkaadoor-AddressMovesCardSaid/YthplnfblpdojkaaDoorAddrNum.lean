/- Numbers and codes as lists of bytes. -/
import Derived.Test.YthplnfblpdojkaaDoorTextPure
namespace Go.Proofs.YthplnfblpdojkaaDoor
open Go.RowKit
set_option linter.unusedVariables false
set_option maxRecDepth 100000

namespace TM
def isnum (t : List UInt8) : Bool := match t with | [] => false | c :: _ => digit c
def trimN (t : List UInt8) : List UInt8 := if isnum (t.dropWhile (· == 48)) then t.dropWhile (· == 48) else 48 :: t.dropWhile (· == 48)
def rtrim : List UInt8 → List UInt8
  | c :: d :: u => if c.toNat = 48 ∧ digit d = true then rtrim (d :: u) else c :: d :: u
  | t => t
theorem digit48 : digit 48 = true := by decide
theorem dropZ (t : List UInt8) : ((48 : UInt8) :: t).dropWhile (· == 48) = t.dropWhile (· == 48) := by simp [List.dropWhile]
theorem drop_stays (c : UInt8) (t : List UInt8) (h : c.toNat ≠ 48) : (c :: t).dropWhile (· == 48) = c :: t := by
  have : (c == 48) = false := by rw [beq_eq_false_iff_ne]; rintro rfl; exact h rfl
  simp [List.dropWhile, this]
theorem trimZ (t : List UInt8) : trimN (48 :: t) = trimN t := by unfold trimN; rw [dropZ]
theorem rtrim_eq : ∀ t, isnum t = true → rtrim t = trimN t
  | [], h => by simp [isnum] at h
  | [c], h => by
    by_cases hc : c.toNat = 48
    · obtain rfl : c = 48 := u8_ext hc
      decide
    · have hd : isnum [c] = true := h
      unfold trimN
      rw [drop_stays c [] hc, if_pos hd]
      rfl
  | c :: d :: u, h => by
    unfold rtrim
    by_cases hc : c.toNat = 48
    · obtain rfl : c = 48 := u8_ext hc
      by_cases hd : digit d = true
      · rw [if_pos ⟨hc, hd⟩, trimZ]
        exact rtrim_eq (d :: u) hd
      · rw [if_neg (fun h => hd h.2), trimZ]
        have h48 : d.toNat ≠ 48 := by rintro h48; rw [u8_ext (b := 48) h48] at hd; exact hd digit48
        have hn : isnum (d :: u) = false := by show digit d = false; simpa using hd
        unfold trimN
        rw [drop_stays d u h48, if_neg (by rw [hn]; simp)]
    · rw [if_neg (fun h => hc h.1)]
      unfold trimN
      rw [drop_stays c _ hc, if_pos h]
theorem drop_head (t : List UInt8) : ∀ c u, t.dropWhile (· == 48) = c :: u → c.toNat ≠ 48 := by
  induction t with
  | nil => intro c u h; simp at h
  | cons x t ih =>
    intro c u h
    by_cases hx : x.toNat = 48
    · rw [u8_ext (b := 48) hx, dropZ] at h
      exact ih c u h
    · rw [drop_stays x t hx] at h
      obtain ⟨rfl, -⟩ := List.cons.inj h
      exact hx
theorem trim_num (t : List UInt8) : isnum (trimN t) = true := by
  unfold trimN
  split
  · assumption
  · exact digit48
theorem trim_trim (t : List UInt8) : trimN (trimN t) = trimN t := by
  obtain ⟨r, hr⟩ : ∃ r, t.dropWhile (· == 48) = r := ⟨_, rfl⟩
  have h1 := drop_head t
  have e : trimN t = if isnum r then r else 48 :: r := by unfold trimN; rw [hr]
  rw [hr] at h1
  rw [e]
  have hd : r.dropWhile (· == 48) = r := by
    cases r with
    | nil => rfl
    | cons c u => exact drop_stays c u (h1 c u rfl)
  by_cases hn : isnum r = true
  · rw [if_pos hn]; unfold trimN; rw [hd, if_pos hn]
  · rw [if_neg hn, trimZ]; unfold trimN; rw [hd, if_neg hn]
theorem drop_mem (t : List UInt8) : ∀ c ∈ t.dropWhile (· == 48), c ∈ t := fun c hc => (List.dropWhile_sublist _).mem hc
theorem trim_mem (t : List UInt8) : ∀ c ∈ trimN t, c = 48 ∨ c ∈ t := by
  intro c hc
  unfold trimN at hc
  split at hc
  · exact .inr (drop_mem t c hc)
  · rcases List.mem_cons.1 hc with hc | hc
    · exact .inl hc
    · exact .inr (drop_mem t c hc)
theorem trim_len (t : List UInt8) : (trimN t).length ≤ t.length + 1 := by
  have := (List.dropWhile_sublist (l := t) (· == (48 : UInt8))).length_le
  unfold trimN
  split <;> simp <;> omega
theorem trim_ne (t : List UInt8) : trimN t ≠ [] := by
  intro h
  have := trim_num t
  rw [h] at this
  simp [isnum] at this
/-- A code without its spaces. -/
def noSp (t : List UInt8) : List UInt8 := t.filter fun c => !(c == 32)
theorem noSp_snoc (t : List UInt8) (k : Nat) (h : k < t.length) : noSp (t.take (k + 1)) = noSp (t.take k) ++ (if t[k].toNat = 32 then [] else [t[k]]) := by
  unfold noSp
  rw [List.take_succ_eq_append_getElem h, List.filter_append, List.filter_cons]
  by_cases hc : t[k].toNat = 32
  · have : t[k] = 32 := u8_ext hc
    rw [if_pos hc, this]; rfl
  · have : (t[k] == 32) = false := by rw [beq_eq_false_iff_ne]; intro h; rw [h] at hc; exact hc rfl
    rw [if_neg hc, this]; rfl
theorem noSp_len (t : List UInt8) : (noSp t).length ≤ t.length := List.length_filter_le _ _
theorem noSp_idem (t : List UInt8) : noSp (noSp t) = noSp t := by unfold noSp; simp
theorem noSp_free (t : List UInt8) : ∀ c ∈ noSp t, c.toNat ≠ 32 := by
  intro c hc h
  have := (List.mem_filter.1 hc).2
  rw [u8_ext (b := 32) h] at this
  simp at this
theorem noSp_sub (t : List UInt8) : ∀ c ∈ noSp t, c ∈ t := fun c hc => (List.mem_filter.1 hc).1
end TM

theorem sizeL (s : ByteArray) : s.data.toList.length = s.size := by simp
def numB (x : ByteArray) : Bool := TM.isnum x.data.toList
end Go.Proofs.YthplnfblpdojkaaDoor
