/- The walk of the program's change. -/
import Derived.Test.YtgokinfejbefjaaDoorDistThr
namespace Go.Proofs.YtgokinfejbefjaaDoor
open Go.RowKit
set_option maxRecDepth 100000

/-- The change of a step. -/
def chOf (b : ByteArray) (s i j : Nat) : DM.Ch :=
  match s with
  | 1 => (3, (i : Int), ((b.data.toList.getD j 0).toNat : Int))
  | 2 => (2, (i : Int), 0)
  | 3 => (1, (i : Int), ((b.data.toList.getD j 0).toNat : Int))
  | _ => (4, (i : Int), 0)
theorem wrap64_byte (c : UInt8) : wrap64 (c.toNat : Int) = (c.toNat : Int) := by
  have := c.toNat_lt
  unfold wrap64; omega

set_option maxHeartbeats 4000000 in
theorem change_any (a b : ByteArray) (T i j s : Nat) (w : World) (hs : s < 5) (h0 : s ≠ 0) (hj : s = 1 ∨ s = 3 → j < b.size) :
    Calls Tryd.prog 33 #[cmpV a b T, stepV s, .int .i64 i, .int .i64 j] w fun e w' => e = .returned (chV (chOf b s i j)) ∧ Below w.heap.size w w' := by
  unfold cmpV
  obtain rfl | rfl | rfl | rfl : s = 1 ∨ s = 2 ∨ s = 3 ∨ s = 4 := by omega
  · have hjb := hj (.inl rfl)
    have hg := Lib.hid (show (b.data.toList.getD j 0) = b[j] from DM.getD_is _ _ (by simpa using hjb))
    have q1 : (j : Int) < (b.size : Int) := by omega
    have q2 := wrap64_byte b[j]
    clear hj
    unfold chOf chV stepV
    simp only [hg.out]
    go_enter Tryd.func33, Tryd.ntmps33
    go_wp2
    refine bodyPost_ret (by simp [results, Tryd.results33, go_sem]) rfl ⟨rfl, ((two_new w _ _).alloc (by simp; omega) _).alloc (by simp; omega) _⟩
  · clear hj
    unfold chOf chV stepV
    go_enter Tryd.func33, Tryd.ntmps33
    go_wp2
    refine bodyPost_ret (by simp [results, Tryd.results33, go_sem]) rfl ⟨rfl, ((two_new w _ _).alloc (by simp; omega) _).alloc (by simp; omega) _⟩
  · have hjb := hj (.inr rfl)
    have hg := Lib.hid (show (b.data.toList.getD j 0) = b[j] from DM.getD_is _ _ (by simpa using hjb))
    have q1 : (j : Int) < (b.size : Int) := by omega
    have q2 := wrap64_byte b[j]
    clear hj
    unfold chOf chV stepV
    simp only [hg.out]
    go_enter Tryd.func33, Tryd.ntmps33
    go_wp2
    refine bodyPost_ret (by simp [results, Tryd.results33, go_sem]) rfl ⟨rfl, ((two_new w _ _).alloc (by simp; omega) _).alloc (by simp; omega) _⟩
  · clear hj
    unfold chOf chV stepV
    go_enter Tryd.func33, Tryd.ntmps33
    go_wp2
    refine bodyPost_ret (by simp [results, Tryd.results33, go_sem]) rfl ⟨rfl, ((two_new w _ _).alloc (by simp; omega) _).alloc (by simp; omega) _⟩
end Go.Proofs.YtgokinfejbefjaaDoor
