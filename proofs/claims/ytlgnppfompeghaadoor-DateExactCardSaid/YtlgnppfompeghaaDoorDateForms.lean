/- What is written out is read again. -/
import Derived.Test.YtlgnppfompeghaaDoorDateDeck
namespace Go.Proofs.YtlgnppfompeghaaDoor
open Go.RowKit
set_option linter.unusedVariables false

theorem psV_ten (x0 x1 x2 x3 x4 x5 x6 x7 x8 x9 : UInt8) : psV ⟨#[x0, x1, x2, x3, x4, x5, x6, x7, x8, x9]⟩ =
    if x4.toNat = 45 ∧ x7.toNat = 45 then readV ⟨#[x0, x1, x2, x3]⟩ ⟨#[x5, x6]⟩ ⟨#[x8, x9]⟩
    else if x2.toNat = 46 ∧ x5.toNat = 46 then readV ⟨#[x6, x7, x8, x9]⟩ ⟨#[x3, x4]⟩ ⟨#[x0, x1]⟩
    else if x2.toNat = 47 ∧ x5.toNat = 47 then readV ⟨#[x6, x7, x8, x9]⟩ ⟨#[x0, x1]⟩ ⟨#[x3, x4]⟩
    else .tuple #[dateV 0 0 0, .int .i64 4] := by rfl
theorem rdV_eight (x0 x1 x2 x3 x4 x5 x6 x7 : UInt8) : rdV ⟨#[x0, x1, x2, x3, x4, x5, x6, x7]⟩ = readV ⟨#[x0, x1, x2, x3]⟩ ⟨#[x4, x5]⟩ ⟨#[x6, x7]⟩ := by rfl

theorem num_two (c d : UInt8) (n : Nat) (hn : n < 100) (h1 : c.toNat = 48 + n / 10) (h2 : d.toNat = 48 + n % 10) : numB ⟨#[c, d]⟩ = some (n : Int) := by
  have k1 : dig c = true := by simp [dig]; omega
  have k2 : dig d = true := by simp [dig]; omega
  show num 0 [c, d] = _
  simp only [num, k1, k2, if_true, Option.some.injEq]
  omega
theorem num_four (a b c d : UInt8) (n k : Nat) (hn : n < 100) (hk : k < 100) (a1 : a.toNat = 48 + n / 10) (a2 : b.toNat = 48 + n % 10) (h1 : c.toNat = 48 + k / 10) (h2 : d.toNat = 48 + k % 10) : numB ⟨#[a, b, c, d]⟩ = some ((n * 100 + k : Nat) : Int) := by
  have k1 : dig a = true := by simp [dig]; omega
  have k2 : dig b = true := by simp [dig]; omega
  have k3 : dig c = true := by simp [dig]; omega
  have k4 : dig d = true := by simp [dig]; omega
  show num 0 [a, b, c, d] = _
  simp only [num, k1, k2, k3, k4, if_true, Option.some.injEq]
  omega
/-- The date that is read, or none. -/
def okV (y m d : Int) : Value := if DM.valid y m d = true then .tuple #[dateV y m d, .int .i64 0] else .tuple #[dateV 0 0 0, .int .i64 4]
theorem readV_of {a b c : ByteArray} {y m d : Int} (h1 : numB a = some y) (h2 : numB b = some m) (h3 : numB c = some d) : readV a b c = okV y m d := by
  unfold readV okV
  rw [h1, h2, h3]

theorem writ_val (form y m d : Int) (hf : 0 ≤ form ∧ form < 3) (hy : 0 ≤ y ∧ y ≤ 9999) (hm : 0 ≤ m ∧ m ≤ 99) (hd : 0 ≤ d ∧ d ≤ 99) : psV (writB form y m d) = okV y m d := by
  have a1 := byte_of ((y / 100).toNat / 10) (by omega)
  have a2 := byte_of ((y / 100).toNat % 10) (by omega)
  have b1 := byte_of ((y % 100).toNat / 10) (by omega)
  have b2 := byte_of ((y % 100).toNat % 10) (by omega)
  have c1 := byte_of (m.toNat / 10) (by omega)
  have c2 := byte_of (m.toNat % 10) (by omega)
  have d1 := byte_of (d.toNat / 10) (by omega)
  have d2 := byte_of (d.toNat % 10) (by omega)
  unfold writB yyB twoB
  generalize UInt8.ofNat (48 + (y / 100).toNat / 10) = x0 at *
  generalize UInt8.ofNat (48 + (y / 100).toNat % 10) = x1 at *
  generalize UInt8.ofNat (48 + (y % 100).toNat / 10) = x2 at *
  generalize UInt8.ofNat (48 + (y % 100).toNat % 10) = x3 at *
  generalize UInt8.ofNat (48 + m.toNat / 10) = x4 at *
  generalize UInt8.ofNat (48 + m.toNat % 10) = x5 at *
  generalize UInt8.ofNat (48 + d.toNat / 10) = x6 at *
  generalize UInt8.ofNat (48 + d.toNat % 10) = x7 at *
  have n1 : numB ⟨#[x0, x1, x2, x3]⟩ = some y := (num_four x0 x1 x2 x3 (y / 100).toNat (y % 100).toNat (by omega) (by omega) a1 a2 b1 b2).trans (congrArg some (by omega))
  have n2 : numB ⟨#[x4, x5]⟩ = some m := (num_two x4 x5 m.toNat (by omega) c1 c2).trans (congrArg some (by omega))
  have n3 : numB ⟨#[x6, x7]⟩ = some d := (num_two x6 x7 d.toNat (by omega) d1 d2).trans (congrArg some (by omega))
  by_cases f0 : form = 0
  · rw [if_pos f0]
    have e : (⟨#[x0, x1]⟩ ++ ⟨#[x2, x3]⟩ ++ ⟨#[45]⟩ ++ ⟨#[x4, x5]⟩ ++ ⟨#[45]⟩ ++ ⟨#[x6, x7]⟩ : ByteArray) = ⟨#[x0, x1, x2, x3, 45, x4, x5, 45, x6, x7]⟩ := by
      apply ba_ext; simp
    rw [e, psV_ten, if_pos ⟨rfl, rfl⟩]
    exact readV_of n1 n2 n3
  · rw [if_neg f0]
    by_cases f1 : form = 1
    · rw [if_pos f1]
      have e : (⟨#[x6, x7]⟩ ++ ⟨#[46]⟩ ++ ⟨#[x4, x5]⟩ ++ ⟨#[46]⟩ ++ (⟨#[x0, x1]⟩ ++ ⟨#[x2, x3]⟩) : ByteArray) = ⟨#[x6, x7, 46, x4, x5, 46, x0, x1, x2, x3]⟩ := by
        apply ba_ext; simp
      rw [e, psV_ten, if_neg (by omega), if_pos ⟨rfl, rfl⟩]
      exact readV_of n1 n2 n3
    · rw [if_neg f1]
      have e : (⟨#[x4, x5]⟩ ++ ⟨#[47]⟩ ++ ⟨#[x6, x7]⟩ ++ ⟨#[47]⟩ ++ (⟨#[x0, x1]⟩ ++ ⟨#[x2, x3]⟩) : ByteArray) = ⟨#[x4, x5, 47, x6, x7, 47, x0, x1, x2, x3]⟩ := by
        apply ba_ext; simp
      rw [e, psV_ten, if_neg (by omega), if_neg (by decide), if_pos ⟨rfl, rfl⟩]
      exact readV_of n1 n2 n3
theorem fmt_val {y m d : Int} (h : DM.valid y m d = true) : rdV (fmtB y m d) = .tuple #[dateV y m d, .int .i64 0] := by
  obtain ⟨hy, hm, hd⟩ := DM.valid_iff.1 h
  have hl := DM.len_pos y m
  have a1 := byte_of ((y / 100).toNat / 10) (by omega)
  have a2 := byte_of ((y / 100).toNat % 10) (by omega)
  have b1 := byte_of ((y % 100).toNat / 10) (by omega)
  have b2 := byte_of ((y % 100).toNat % 10) (by omega)
  have c1 := byte_of (m.toNat / 10) (by omega)
  have c2 := byte_of (m.toNat % 10) (by omega)
  have d1 := byte_of (d.toNat / 10) (by omega)
  have d2 := byte_of (d.toNat % 10) (by omega)
  unfold fmtB twoB
  generalize UInt8.ofNat (48 + (y / 100).toNat / 10) = x0 at *
  generalize UInt8.ofNat (48 + (y / 100).toNat % 10) = x1 at *
  generalize UInt8.ofNat (48 + (y % 100).toNat / 10) = x2 at *
  generalize UInt8.ofNat (48 + (y % 100).toNat % 10) = x3 at *
  generalize UInt8.ofNat (48 + m.toNat / 10) = x4 at *
  generalize UInt8.ofNat (48 + m.toNat % 10) = x5 at *
  generalize UInt8.ofNat (48 + d.toNat / 10) = x6 at *
  generalize UInt8.ofNat (48 + d.toNat % 10) = x7 at *
  have n1 : numB ⟨#[x0, x1, x2, x3]⟩ = some y := (num_four x0 x1 x2 x3 (y / 100).toNat (y % 100).toNat (by omega) (by omega) a1 a2 b1 b2).trans (congrArg some (by omega))
  have n2 : numB ⟨#[x4, x5]⟩ = some m := (num_two x4 x5 m.toNat (by omega) c1 c2).trans (congrArg some (by omega))
  have n3 : numB ⟨#[x6, x7]⟩ = some d := (num_two x6 x7 d.toNat (by omega) d1 d2).trans (congrArg some (by omega))
  have e : (⟨#[x0, x1]⟩ ++ ⟨#[x2, x3]⟩ ++ ⟨#[x4, x5]⟩ ++ ⟨#[x6, x7]⟩ : ByteArray) = ⟨#[x0, x1, x2, x3, x4, x5, x6, x7]⟩ := by
    apply ba_ext; simp
  rw [e, rdV_eight, readV_of n1 n2 n3]
  unfold okV
  rw [h]
  rfl
theorem writ_size (form y m d : Int) : (writB form y m d).size = 10 := by
  unfold writB yyB
  split
  · simp only [size_add]; rfl
  · split
    · simp only [size_add]; rfl
    · simp only [size_add]; rfl
theorem fmt_size (y m d : Int) : (fmtB y m d).size = 8 := by
  unfold fmtB
  simp only [size_add]
  rfl
end Go.Proofs.YtlgnppfompeghaaDoor
