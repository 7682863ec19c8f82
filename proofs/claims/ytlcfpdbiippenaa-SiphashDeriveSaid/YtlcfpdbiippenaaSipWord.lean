/- Numbers of 64 bits, and the walks of the reference's rotl and round. -/
import Derived.Test.YtlcfpdbiippenaaEBase
import Derived.Test.YtlcfpdbiippenaaSipMath
import Derived.Laws.Rows
namespace Go.Proofs.Ytlcfpdbiippenaa
open Go.RowKit
set_option linter.unusedVariables false
set_option maxRecDepth 100000

/-- A number of 64 bits as the walk writes it. -/
def n64 (u : UInt64) : Int := (u.toNat : Int)
theorem n64_lt (u : UInt64) : 0 ≤ n64 u ∧ n64 u < 18446744073709551616 := by
  have := u.toNat_lt
  unfold n64
  omega
theorem wrapU (n : Nat) : IntKind.u64.wrap (n : Int) = ((n % 18446744073709551616 : Nat) : Int) := by
  simp [IntKind.wrap, IntKind.bits, IntKind.signed]
theorem n64_add (a b : UInt64) : IntKind.u64.wrap (n64 a + n64 b) = n64 (a + b) := by
  unfold n64
  rw [← Int.natCast_add, wrapU, UInt64.toNat_add]
theorem n64_xor (a b : UInt64) : bits .xor .u64 (n64 a) (n64 b) = n64 (a ^^^ b) := by
  unfold n64
  rw [u64_xor_nat _ _ a.toNat_lt b.toNat_lt, UInt64.toNat_xor]
theorem n64_or (a b : UInt64) : bits .or .u64 (n64 a) (n64 b) = n64 (a ||| b) := by
  unfold n64
  rw [u64_or_nat _ _ a.toNat_lt b.toNat_lt, UInt64.toNat_or]
theorem n64_shl (a : UInt64) (k : Nat) (hk : k < 64) : IntKind.u64.wrap (n64 a * ((2 ^ k : Nat) : Int)) = n64 (a <<< k.toUInt64) := by
  unfold n64
  rw [← Int.natCast_mul, wrapU, UInt64.toNat_shiftLeft]
  congr 1
  have e : k.toUInt64.toNat = k := by
    show k % 18446744073709551616 = k
    omega
  rw [e, Nat.mod_eq_of_lt (show k < 64 from hk), Nat.shiftLeft_eq]
theorem n64_shr (a : UInt64) (k : Nat) (hk : k < 64) : n64 a / ((2 ^ k : Nat) : Int) = n64 (a >>> k.toUInt64) := by
  unfold n64
  rw [← Int.natCast_ediv, UInt64.toNat_shiftRight]
  congr 1
  have e : k.toUInt64.toNat = k := by
    show k % 18446744073709551616 = k
    omega
  rw [e, Nat.mod_eq_of_lt (show k < 64 from hk), Nat.shiftRight_eq_div_pow]
/-- A constant of 64 bits. -/
theorem n64_lit (k : Nat) (hk : k < 18446744073709551616) : (k : Int) = n64 (UInt64.ofNat k) := by
  unfold n64
  rw [UInt64.toNat_ofNat', Nat.mod_eq_of_lt hk]
theorem rot13 (x : UInt64) : bits .or .u64 (IntKind.u64.wrap (n64 x * 8192)) (n64 x / 2251799813685248) = n64 (SM.rotl x 13) := by
  have h1 := n64_shl x 13 (by decide)
  have h2 := n64_shr x 51 (by decide)
  rw [show ((2^13 : Nat) : Int) = 8192 from rfl] at h1
  rw [show ((2^51 : Nat) : Int) = 2251799813685248 from rfl] at h2
  rw [h1, h2, n64_or]
  rfl
set_option maxHeartbeats 1000000 in
theorem rrotl13 (x : UInt64) (w : World) :
    Calls Try.prog 33 #[.int .u64 (n64 x), .int .i64 13] w fun e w' => e = .returned (.int .u64 (n64 (SM.rotl x 13))) ∧ Below w.heap.size w w' := by
  have hr := rot13 x
  go_enter Try.func33, Try.ntmps33
  go_wp2_with fail
  go_quiet (fail)
  go_wp2
  go_ret
  exact ⟨rfl, below_drewN (Below.refl _ w) _⟩
theorem rot16 (x : UInt64) : bits .or .u64 (IntKind.u64.wrap (n64 x * 65536)) (n64 x / 281474976710656) = n64 (SM.rotl x 16) := by
  have h1 := n64_shl x 16 (by decide)
  have h2 := n64_shr x 48 (by decide)
  rw [show ((2^16 : Nat) : Int) = 65536 from rfl] at h1
  rw [show ((2^48 : Nat) : Int) = 281474976710656 from rfl] at h2
  rw [h1, h2, n64_or]
  rfl
set_option maxHeartbeats 1000000 in
theorem rrotl16 (x : UInt64) (w : World) :
    Calls Try.prog 33 #[.int .u64 (n64 x), .int .i64 16] w fun e w' => e = .returned (.int .u64 (n64 (SM.rotl x 16))) ∧ Below w.heap.size w w' := by
  have hr := rot16 x
  go_enter Try.func33, Try.ntmps33
  go_wp2_with fail
  go_quiet (fail)
  go_wp2
  go_ret
  exact ⟨rfl, below_drewN (Below.refl _ w) _⟩
theorem rot17 (x : UInt64) : bits .or .u64 (IntKind.u64.wrap (n64 x * 131072)) (n64 x / 140737488355328) = n64 (SM.rotl x 17) := by
  have h1 := n64_shl x 17 (by decide)
  have h2 := n64_shr x 47 (by decide)
  rw [show ((2^17 : Nat) : Int) = 131072 from rfl] at h1
  rw [show ((2^47 : Nat) : Int) = 140737488355328 from rfl] at h2
  rw [h1, h2, n64_or]
  rfl
set_option maxHeartbeats 1000000 in
theorem rrotl17 (x : UInt64) (w : World) :
    Calls Try.prog 33 #[.int .u64 (n64 x), .int .i64 17] w fun e w' => e = .returned (.int .u64 (n64 (SM.rotl x 17))) ∧ Below w.heap.size w w' := by
  have hr := rot17 x
  go_enter Try.func33, Try.ntmps33
  go_wp2_with fail
  go_quiet (fail)
  go_wp2
  go_ret
  exact ⟨rfl, below_drewN (Below.refl _ w) _⟩
theorem rot21 (x : UInt64) : bits .or .u64 (IntKind.u64.wrap (n64 x * 2097152)) (n64 x / 8796093022208) = n64 (SM.rotl x 21) := by
  have h1 := n64_shl x 21 (by decide)
  have h2 := n64_shr x 43 (by decide)
  rw [show ((2^21 : Nat) : Int) = 2097152 from rfl] at h1
  rw [show ((2^43 : Nat) : Int) = 8796093022208 from rfl] at h2
  rw [h1, h2, n64_or]
  rfl
set_option maxHeartbeats 1000000 in
theorem rrotl21 (x : UInt64) (w : World) :
    Calls Try.prog 33 #[.int .u64 (n64 x), .int .i64 21] w fun e w' => e = .returned (.int .u64 (n64 (SM.rotl x 21))) ∧ Below w.heap.size w w' := by
  have hr := rot21 x
  go_enter Try.func33, Try.ntmps33
  go_wp2_with fail
  go_quiet (fail)
  go_wp2
  go_ret
  exact ⟨rfl, below_drewN (Below.refl _ w) _⟩
theorem rot32 (x : UInt64) : bits .or .u64 (IntKind.u64.wrap (n64 x * 4294967296)) (n64 x / 4294967296) = n64 (SM.rotl x 32) := by
  have h1 := n64_shl x 32 (by decide)
  have h2 := n64_shr x 32 (by decide)
  rw [show ((2^32 : Nat) : Int) = 4294967296 from rfl] at h1
  rw [show ((2^32 : Nat) : Int) = 4294967296 from rfl] at h2
  rw [h1, h2, n64_or]
  rfl
set_option maxHeartbeats 1000000 in
theorem rrotl32 (x : UInt64) (w : World) :
    Calls Try.prog 33 #[.int .u64 (n64 x), .int .i64 32] w fun e w' => e = .returned (.int .u64 (n64 (SM.rotl x 32))) ∧ Below w.heap.size w w' := by
  have hr := rot32 x
  go_enter Try.func33, Try.ntmps33
  go_wp2_with fail
  go_quiet (fail)
  go_wp2
  go_ret
  exact ⟨rfl, below_drewN (Below.refl _ w) _⟩
theorem two_new8 (w : World) (u u' : Obj) : Below w.heap.size w ((w.alloc u).alloc u') := ((Below.refl _ w).alloc (Nat.le_refl _) _).alloc (by simp) _
theorem heap_two8 (w : World) (u : Obj) (cs : Array Value) (T : TypeId) : ((w.alloc u).alloc (.cells cs T)).heap[w.heap.size + 1]? = some (.cells cs T (0, 0)) := by
  have := heap_alloc_new (w.alloc u) (.cells cs T)
  rwa [World.size_alloc] at this

/-- Four numbers as a value. -/
def vV (v : SM.V) : Value := .agg #[.int .u64 (n64 v.a), .int .u64 (n64 v.b), .int .u64 (n64 v.c), .int .u64 (n64 v.d)]

set_option maxHeartbeats 4000000 in
theorem rround_any (v : SM.V) (w : World) :
    Calls Try.prog 27 #[vV v] w fun e w' => e = .returned (vV (SM.round v)) ∧ Below w.heap.size w w' := by
  obtain ⟨a, b, c, d⟩ := v
  have HV := Lib.hid (show vV (SM.round ⟨a, b, c, d⟩) = .agg #[.int .u64 (n64 (SM.round ⟨a, b, c, d⟩).a), .int .u64 (n64 (SM.round ⟨a, b, c, d⟩).b), .int .u64 (n64 (SM.round ⟨a, b, c, d⟩).c), .int .u64 (n64 (SM.round ⟨a, b, c, d⟩).d)] from rfl)
  have hA := n64_add
  have hX := n64_xor
  unfold vV
  simp only
  go_enter Try.func27, Try.ntmps27
  go_wp2_with fail
  go_quiet (fail)
  obtain ⟨W0, hW0⟩ : ∃ W, W = ((w.alloc (.cells #[.int .u64 (n64 a), .int .u64 (n64 b), .int .u64 (n64 c), .int .u64 (n64 d)] 53)).alloc (.cells #[.int .u64 0, .int .u64 0, .int .u64 0, .int .u64 0] 53)).drewN nq := ⟨_, rfl⟩
  have hs0 : W0.heap.size = w.heap.size + 2 := by rw [hW0]; simp
  have hres : Hid (W0.heap[w.heap.size + 1]? = some (.cells #[.int .u64 0, .int .u64 0, .int .u64 0, .int .u64 0] 53 (0, 0))) := by rw [hW0]; exact heap_two8 w _ _ _
  have hb0 : Hid (Below w.heap.size w W0) := by rw [hW0]; exact below_drewN (two_new8 w _ _) nq
  have hc0 : Below W0.heap.size W0 W0 := Below.refl _ _
  rw [← hW0]
  clear hW0
  go_wp2_with fail
  refine (rrotl13 _ _).mono ?_
  rintro e w1 ⟨rfl, d1⟩
  have hc1 := hc0.trans (d1.mono hc0.size)
  clear d1 hc0
  go_wp2_with fail
  refine (rrotl32 _ _).mono ?_
  rintro e w2 ⟨rfl, d2⟩
  have hc2 := hc1.trans (d2.mono hc1.size)
  clear d2 hc1
  go_wp2_with fail
  refine (rrotl16 _ _).mono ?_
  rintro e w3 ⟨rfl, d3⟩
  have hc3 := hc2.trans (d3.mono hc2.size)
  clear d3 hc2
  go_wp2_with fail
  refine (rrotl21 _ _).mono ?_
  rintro e w4 ⟨rfl, d4⟩
  have hc4 := hc3.trans (d4.mono hc3.size)
  clear d4 hc3
  go_wp2_with fail
  refine (rrotl17 _ _).mono ?_
  rintro e w5 ⟨rfl, d5⟩
  have hc5 := hc4.trans (d5.mono hc4.size)
  clear d5 hc4
  go_wp2_with fail
  refine (rrotl32 _ _).mono ?_
  rintro e w6 ⟨rfl, d6⟩
  have hc6 := hc5.trans (d6.mono hc5.size)
  clear d6 hc5
  have hrb := (hc6.block (w.heap.size + 1) (by omega)).trans hres.out
  have z0 : w6.cell? ⟨w.heap.size + 1, 0, none⟩ = some (.int .u64 0) := by rw [cell_of_row _ _ _ _ _ _ hrb]; rfl
  have f0 : w6.frozen? ⟨w.heap.size + 1, 0, none⟩ = false := Lib.frozen_of_heap hrb 0
  have z1 : w6.cell? ⟨w.heap.size + 1, 1, none⟩ = some (.int .u64 0) := by rw [cell_of_row _ _ _ _ _ _ hrb]; rfl
  have f1 : w6.frozen? ⟨w.heap.size + 1, 1, none⟩ = false := Lib.frozen_of_heap hrb 1
  have z2 : w6.cell? ⟨w.heap.size + 1, 2, none⟩ = some (.int .u64 0) := by rw [cell_of_row _ _ _ _ _ _ hrb]; rfl
  have f2 : w6.frozen? ⟨w.heap.size + 1, 2, none⟩ = false := Lib.frozen_of_heap hrb 2
  have z3 : w6.cell? ⟨w.heap.size + 1, 3, none⟩ = some (.int .u64 0) := by rw [cell_of_row _ _ _ _ _ _ hrb]; rfl
  have f3 : w6.frozen? ⟨w.heap.size + 1, 3, none⟩ = false := Lib.frozen_of_heap hrb 3
  have hb6 := Lib.hid (hb0.out.trans (hc6.mono (by omega)))
  clear hrb hc6
  go_wp2
  exact bodyPost_ret (v := .agg #[.int .u64 (n64 (SM.round ⟨a, b, c, d⟩).a), .int .u64 (n64 (SM.round ⟨a, b, c, d⟩).b), .int .u64 (n64 (SM.round ⟨a, b, c, d⟩).c), .int .u64 (n64 (SM.round ⟨a, b, c, d⟩).d)]) (by simp [results, Try.results27, SM.round, go_sem, z0, z1, z2, z3]) rfl ⟨rfl, (((hb6.out.setCell (p := ⟨w.heap.size + 1, 0, none⟩) (Nat.le_succ _) _).setCell (p := ⟨w.heap.size + 1, 1, none⟩) (Nat.le_succ _) _).setCell (p := ⟨w.heap.size + 1, 2, none⟩) (Nat.le_succ _) _).setCell (p := ⟨w.heap.size + 1, 3, none⟩) (Nat.le_succ _) _⟩
end Go.Proofs.Ytlcfpdbiippenaa
