/- Numbers of 64 bits, and the walks of the reference's rotl and round. -/
import Derived.Test.YtfcnodiepdnegaaEBase
import Derived.Test.YtfcnodiepdnegaaSipMath
import Derived.Laws.Rows
namespace Go.Proofs.Ytfcnodiepdnegaa
open Go.RowKit
set_option linter.unusedVariables false
set_option maxRecDepth 100000

/-- A number of 64 bits as the walk writes it. -/
def n64 (u : UInt64) : Int := (u.toNat : Int)
theorem n64_lt (u : UInt64) : 0 ≤ n64 u ∧ n64 u < 18446744073709551616 := by
  have := u.toNat_lt
  unfold n64
  omega
theorem wrapU (n : Nat) : IntKind.u64.wrap (n : Int) = ((n % 18446744073709551616 : Nat) : Int) := by
  simp [IntKind.wrap, IntKind.bits, IntKind.signed]
theorem n64_add (a b : UInt64) : IntKind.u64.wrap (n64 a + n64 b) = n64 (a + b) := by
  unfold n64
  rw [← Int.natCast_add, wrapU, UInt64.toNat_add]
theorem n64_xor (a b : UInt64) : bits .xor .u64 (n64 a) (n64 b) = n64 (a ^^^ b) := by
  unfold n64
  rw [u64_xor_nat _ _ a.toNat_lt b.toNat_lt, UInt64.toNat_xor]
theorem n64_or (a b : UInt64) : bits .or .u64 (n64 a) (n64 b) = n64 (a ||| b) := by
  unfold n64
  rw [u64_or_nat _ _ a.toNat_lt b.toNat_lt, UInt64.toNat_or]
theorem n64_shl (a : UInt64) (k : Nat) (hk : k < 64) : IntKind.u64.wrap (n64 a * ((2 ^ k : Nat) : Int)) = n64 (a <<< k.toUInt64) := by
  unfold n64
  rw [← Int.natCast_mul, wrapU, UInt64.toNat_shiftLeft]
  congr 1
  have e : k.toUInt64.toNat = k := by
    show k % 18446744073709551616 = k
    omega
  rw [e, Nat.mod_eq_of_lt (show k < 64 from hk), Nat.shiftLeft_eq]
theorem n64_shr (a : UInt64) (k : Nat) (hk : k < 64) : n64 a / ((2 ^ k : Nat) : Int) = n64 (a >>> k.toUInt64) := by
  unfold n64
  rw [← Int.natCast_ediv, UInt64.toNat_shiftRight]
  congr 1
  have e : k.toUInt64.toNat = k := by
    show k % 18446744073709551616 = k
    omega
  rw [e, Nat.mod_eq_of_lt (show k < 64 from hk), Nat.shiftRight_eq_div_pow]
/-- A constant of 64 bits. -/
theorem n64_lit (k : Nat) (hk : k < 18446744073709551616) : (k : Int) = n64 (UInt64.ofNat k) := by
  unfold n64
  rw [UInt64.toNat_ofNat', Nat.mod_eq_of_lt hk]
theorem rot13 (x : UInt64) : bits .or .u64 (IntKind.u64.wrap (n64 x * 8192)) (n64 x / 2251799813685248) = n64 (SM.rotl x 13) := by
  have h1 := n64_shl x 13 (by decide)
  have h2 := n64_shr x 51 (by decide)
  rw [show ((2^13 : Nat) : Int) = 8192 from rfl] at h1
  rw [show ((2^51 : Nat) : Int) = 2251799813685248 from rfl] at h2
  rw [h1, h2, n64_or]
  rfl
theorem rot16 (x : UInt64) : bits .or .u64 (IntKind.u64.wrap (n64 x * 65536)) (n64 x / 281474976710656) = n64 (SM.rotl x 16) := by
  have h1 := n64_shl x 16 (by decide)
  have h2 := n64_shr x 48 (by decide)
  rw [show ((2^16 : Nat) : Int) = 65536 from rfl] at h1
  rw [show ((2^48 : Nat) : Int) = 281474976710656 from rfl] at h2
  rw [h1, h2, n64_or]
  rfl
theorem rot17 (x : UInt64) : bits .or .u64 (IntKind.u64.wrap (n64 x * 131072)) (n64 x / 140737488355328) = n64 (SM.rotl x 17) := by
  have h1 := n64_shl x 17 (by decide)
  have h2 := n64_shr x 47 (by decide)
  rw [show ((2^17 : Nat) : Int) = 131072 from rfl] at h1
  rw [show ((2^47 : Nat) : Int) = 140737488355328 from rfl] at h2
  rw [h1, h2, n64_or]
  rfl
theorem rot21 (x : UInt64) : bits .or .u64 (IntKind.u64.wrap (n64 x * 2097152)) (n64 x / 8796093022208) = n64 (SM.rotl x 21) := by
  have h1 := n64_shl x 21 (by decide)
  have h2 := n64_shr x 43 (by decide)
  rw [show ((2^21 : Nat) : Int) = 2097152 from rfl] at h1
  rw [show ((2^43 : Nat) : Int) = 8796093022208 from rfl] at h2
  rw [h1, h2, n64_or]
  rfl
theorem rot32 (x : UInt64) : bits .or .u64 (IntKind.u64.wrap (n64 x * 4294967296)) (n64 x / 4294967296) = n64 (SM.rotl x 32) := by
  have h1 := n64_shl x 32 (by decide)
  have h2 := n64_shr x 32 (by decide)
  rw [show ((2^32 : Nat) : Int) = 4294967296 from rfl] at h1
  rw [show ((2^32 : Nat) : Int) = 4294967296 from rfl] at h2
  rw [h1, h2, n64_or]
  rfl
theorem two_new8 (w : World) (u u' : Obj) : Below w.heap.size w ((w.alloc u).alloc u') := ((Below.refl _ w).alloc (Nat.le_refl _) _).alloc (by simp) _
theorem heap_two8 (w : World) (u : Obj) (cs : Array Value) (T : TypeId) : ((w.alloc u).alloc (.cells cs T)).heap[w.heap.size + 1]? = some (.cells cs T (0, 0)) := by
  have := heap_alloc_new (w.alloc u) (.cells cs T)
  rwa [World.size_alloc] at this

/-- Four numbers as a value. -/
def vV (v : SM.V) : Value := .agg #[.int .u64 (n64 v.a), .int .u64 (n64 v.b), .int .u64 (n64 v.c), .int .u64 (n64 v.d)]

end Go.Proofs.Ytfcnodiepdnegaa
