/- THE PROGRAM's rotations (math/bits.RotateLeft64 at the five numbers of a round). -/
import Derived.Test.YtlcfpdbiippenaaFBase
namespace Go.Proofs.Ytlcfpdbiippenaa
open Go.RowKit
set_option linter.unusedVariables false
set_option maxRecDepth 100000

set_option maxHeartbeats 1000000 in
theorem rot13_any (x : UInt64) (w : World) :
    Calls Try.prog 34 #[.int .u64 (n64 x), .int .i64 13] w fun e w' => e = .returned (.int .u64 (n64 (SM.rotl x 13))) ∧ w' = w := by
  have hr := rot13 x
  have hm : bits .and .u64 13 63 = 13 := by decide +kernel
  go_enter Try.func34, Try.ntmps34
  go_wp2
  go_ret
  exact ⟨rfl, rfl⟩

set_option maxHeartbeats 1000000 in
theorem rot16_any (x : UInt64) (w : World) :
    Calls Try.prog 34 #[.int .u64 (n64 x), .int .i64 16] w fun e w' => e = .returned (.int .u64 (n64 (SM.rotl x 16))) ∧ w' = w := by
  have hr := rot16 x
  have hm : bits .and .u64 16 63 = 16 := by decide +kernel
  go_enter Try.func34, Try.ntmps34
  go_wp2
  go_ret
  exact ⟨rfl, rfl⟩

set_option maxHeartbeats 1000000 in
theorem rot17_any (x : UInt64) (w : World) :
    Calls Try.prog 34 #[.int .u64 (n64 x), .int .i64 17] w fun e w' => e = .returned (.int .u64 (n64 (SM.rotl x 17))) ∧ w' = w := by
  have hr := rot17 x
  have hm : bits .and .u64 17 63 = 17 := by decide +kernel
  go_enter Try.func34, Try.ntmps34
  go_wp2
  go_ret
  exact ⟨rfl, rfl⟩

set_option maxHeartbeats 1000000 in
theorem rot21_any (x : UInt64) (w : World) :
    Calls Try.prog 34 #[.int .u64 (n64 x), .int .i64 21] w fun e w' => e = .returned (.int .u64 (n64 (SM.rotl x 21))) ∧ w' = w := by
  have hr := rot21 x
  have hm : bits .and .u64 21 63 = 21 := by decide +kernel
  go_enter Try.func34, Try.ntmps34
  go_wp2
  go_ret
  exact ⟨rfl, rfl⟩

set_option maxHeartbeats 1000000 in
theorem rot32_any (x : UInt64) (w : World) :
    Calls Try.prog 34 #[.int .u64 (n64 x), .int .i64 32] w fun e w' => e = .returned (.int .u64 (n64 (SM.rotl x 32))) ∧ w' = w := by
  have hr := rot32 x
  have hm : bits .and .u64 32 63 = 32 := by decide +kernel
  go_enter Try.func34, Try.ntmps34
  go_wp2
  go_ret
  exact ⟨rfl, rfl⟩
end Go.Proofs.Ytlcfpdbiippenaa
