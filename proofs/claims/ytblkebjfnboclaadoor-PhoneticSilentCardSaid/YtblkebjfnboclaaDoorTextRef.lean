/- Walks of the reference's functions. -/
import Derived.Test.YtblkebjfnboclaaDoorTextSplit
namespace Go.Proofs.YtblkebjfnboclaaDoor
open Go.RowKit
set_option maxRecDepth 100000

def tbl : ByteArray := ⟨#[97, 97, 97, 97, 97, 97, 63, 63, 101, 101, 101, 101, 105, 105, 105, 105, 100, 110, 111, 111, 111, 111, 111, 63, 111, 117, 117, 117, 117, 121, 63, 63]⟩
theorem and31_all : ∀ n : Fin 256, bits .and .u8 ((n.val : Nat) : Int) 31 = ((n.val % 32 : Nat) : Int) := by decide +kernel
theorem and31 (d : UInt8) : bits .and .u8 (d.toNat : Int) 31 = ((d.toNat % 32 : Nat) : Int) := and31_all ⟨d.toNat, d.toNat_lt⟩
theorem tbl_all : ∀ n : Fin 256, (n.val % 32 = 6 ∨ n.val % 32 = 7 ∨ n.val % 32 = 23 ∨ n.val % 32 = 30 ∨ n.val = 159 ∨ n.val = 191) ∨ (tbl.data.toList.drop (n.val % 32)).take 1 = TM.repl (UInt8.ofNat n.val) := by decide +kernel
theorem tbl_repl (d : UInt8) (h : ¬ d.toNat % 32 = 6 ∧ ¬ d.toNat % 32 = 7 ∧ ¬ d.toNat % 32 = 23 ∧ ¬ d.toNat % 32 = 30 ∧ ¬ d.toNat = 159 ∧ ¬ d.toNat = 191) : tbl.extract (d.toNat % 32) (d.toNat % 32 + 1) = bs (TM.repl d) := by
  have := tbl_all ⟨d.toNat, d.toNat_lt⟩
  simp only [UInt8.ofNat_toNat] at this
  rcases this with h' | h'
  · omega
  · rw [← h']
    have e := Lib.extract_data tbl (d.toNat % 32) (d.toNat % 32 + 1)
    rw [Nat.add_sub_cancel_left] at e
    rw [← e]
    rfl

theorem repl_all_mod : ∀ n : Fin 256, ∀ k : Fin 32, n.val % 32 = k.val → (k.val = 6 ∨ k.val = 7 ∨ k.val = 23 ∨ k.val = 30) → TM.repl (UInt8.ofNat n.val) = TM.repl (UInt8.ofNat k.val) := by decide +kernel
theorem repl_mod (d : UInt8) (k : Nat) (h : ((d.toNat : Int) % 32 == (k : Int)) = true) (hk : k = 6 ∨ k = 7 ∨ k = 23 ∨ k = 30 := by decide) : TM.repl d = TM.repl (UInt8.ofNat k) := by
  simp only [beq_iff_eq] at h
  have := repl_all_mod ⟨d.toNat, d.toNat_lt⟩ ⟨k, by omega⟩ (by show d.toNat % 32 = k; omega) hk
  simpa using this
theorem repl_is (d : UInt8) (k : Nat) (h : ((d.toNat : Int) == (k : Int)) = true) : TM.repl d = TM.repl (UInt8.ofNat k) := by
  simp only [beq_iff_eq] at h
  have : d.toNat = k := by omega
  rw [← this, UInt8.ofNat_toNat]

theorem starts_end (s : ByteArray) (k : Nat) (h : s.size ≤ k + 1) : startsB (s.extract k s.size) = false := by
  rw [starts_drop]
  by_cases hk : k < s.size
  · rw [drop_at s k hk, drop_end s (k + 1) h]; rfl
  · rw [drop_end s k (by omega)]; rfl
theorem starts_two_eq (s : ByteArray) (k : Nat) (h : k + 1 < s.size) : startsB (s.extract k s.size) = (s[k].toNat == 195 && TM.second s[k + 1]) := by
  rw [starts_drop, drop_at s k (by omega), drop_at s (k + 1) h]; rfl
theorem starts_no (s : ByteArray) (k : Nat) (h : k + 1 < s.size) (_h1 : (s[k].toNat : Int) = 195) (h2 : (s[k + 1].toNat : Int) < 128 ∨ 191 < (s[k + 1].toNat : Int)) : startsB (s.extract k s.size) = false := by
  rw [starts_two_eq s k h]
  unfold TM.second
  simp
  omega
theorem starts_yes (s : ByteArray) (k : Nat) (h : k + 1 < s.size) (h1 : (s[k].toNat : Int) = 195) (h2 : 128 ≤ (s[k + 1].toNat : Int) ∧ (s[k + 1].toNat : Int) ≤ 191) : startsB (s.extract k s.size) = true := by
  rw [starts_two_eq s k h]
  unfold TM.second
  simp
  omega
theorem starts_not (s : ByteArray) (k : Nat) (h : k < s.size) (h1 : ¬ (s[k].toNat : Int) = 195) : startsB (s.extract k s.size) = false := by
  by_cases hk : k + 1 < s.size
  · rw [starts_two_eq s k hk]
    simp
    omega
  · exact starts_end s k (by omega)

end Go.Proofs.YtblkebjfnboclaaDoor
