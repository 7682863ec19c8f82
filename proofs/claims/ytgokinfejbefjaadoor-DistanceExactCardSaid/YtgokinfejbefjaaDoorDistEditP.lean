/- Walks of the program's Edit and Similar. -/
import Derived.Test.YtgokinfejbefjaaDoorDistComp
namespace Go.Proofs.YtgokinfejbefjaaDoor
open Go.RowKit
set_option maxRecDepth 100000

set_option maxHeartbeats 1000000 in
theorem Edit_any (a b : ByteArray) (w : World) (hE : SEnv w) (ha : a.size ≤ maxLen) (hb : b.size ≤ maxLen) :
    Calls Tryd.prog 13 #[.string a, .string b] w fun e w' => e = .returned (editV a b) ∧ Below w.heap.size w w' := by
  unfold maxLen at ha hb
  by_cases h : 64 < a.size ∨ 64 < b.size
  · have hv : editV a b = .tuple #[.int .i64 0, .int .i64 1] := by unfold editV editN; rw [if_pos h]; rfl
    have HV := Lib.hid hv
    clear hv
    go_enter Tryd.func13, Tryd.ntmps13
    by_cases h1 : 64 < a.size
    · go_wp2
      go_ret2
      exact ⟨by rw [HV.out]; rfl, Below.refl _ _⟩
    · have h2 : 64 < b.size := h.resolve_left h1
      go_wp2
      go_ret2
      exact ⟨by rw [HV.out]; rfl, Below.refl _ _⟩
  · have h1 : a.size ≤ 64 := by omega
    have h2 : b.size ≤ 64 := by omega
    have hv : editV a b = .tuple #[.int .i64 (distB a b : Int), .int .i64 0] := by unfold editV editN; rw [if_neg h]; rfl
    have HV := Lib.hid hv
    have HE := Lib.hid hE
    clear hv h hE
    go_enter Tryd.func13, Tryd.ntmps13
    go_wp2_with fail
    refine (compare_any a b w HE.out h1 h2).mono ?_
    rintro e w1 ⟨T, rfl, hK, hB⟩
    obtain ⟨R, c1, c2⟩ := hK a.size b.size (Nat.le_refl _) (Nat.le_refl _)
    rw [tabN_all] at c2
    unfold cmpV
    have j1 : (a.size : Int) < (a.size : Int) + 1 := by omega
    have j2 : (b.size : Int) < (b.size : Int) + 1 := by omega
    clear hK
    have hfd : ∀ W : World, (Instr.field 57 (.agg #[.string a, .string b, .slice (some ⟨T, 0, none⟩) (a.size + 1) (a.size + 1)]) 2).run Tryd.prog W = .ok (.slice (some ⟨T, 0, none⟩) (a.size + 1) (a.size + 1)) W := fun _ => by kernel_rfl
    go_wp2
    go_ret2
    exact ⟨by rw [HV.out]; rfl, hB⟩

set_option maxHeartbeats 1000000 in
theorem Similar_any (a b : ByteArray) (w : World) (hE : SEnv w) (ha : a.size ≤ maxLen) (hb : b.size ≤ maxLen) :
    Calls Tryd.prog 17 #[.string a, .string b] w fun e w' => e = .returned (simV a b) ∧ Below w.heap.size w w' := by
  have hC := Lib.hid (Edit_any a b w hE ha hb)
  clear hE
  unfold maxLen at ha hb
  by_cases h : 64 < a.size ∨ 64 < b.size
  · have hv : simV a b = .tuple #[.int .i64 0, .int .i64 1] := by unfold simV simN; rw [if_pos h]; rfl
    have he : editV a b = .tuple #[.int .i64 0, .int .i64 1] := by unfold editV editN; rw [if_pos h]; rfl
    have HV := Lib.hid hv
    have HE := Lib.hid he
    clear hv he h
    rw [HE.out] at hC
    go_enter Tryd.func17, Tryd.ntmps17
    go_wp2_with fail
    refine hC.out.mono ?_
    rintro e w1 ⟨rfl, b1⟩
    go_wp2
    go_ret2
    exact ⟨by rw [HV.out]; rfl, b1⟩
  · have he : editV a b = .tuple #[.int .i64 (distB a b : Int), .int .i64 0] := by unfold editV editN; rw [if_neg h]; rfl
    have hd := distB_max a b
    rw [he] at hC
    obtain ⟨M, hM⟩ : ∃ M, M = max a.size b.size := ⟨_, rfl⟩
    have hmx := fun (W : World) (ts : Array TypeId) (ty : TypeId) => max2 (W := W) ts ty (a.size : Int) (b.size : Int) M (by omega)
    have hM64 : M ≤ 64 := by omega
    rw [← hM] at hd
    have hv : simN a b = if M = 0 then (1000, 0) else (1000 * (M - distB a b) / M, 0) := by unfold simN; rw [if_neg h, ← hM]
    generalize distB a b = D at *
    by_cases h0 : M = 0
    · rw [if_pos h0] at hv
      have HV := Lib.hid hv
      have t0 : ((M : Int) == 0) = true := by simp; omega
      clear hv he h hM hd
      go_enter Tryd.func17, Tryd.ntmps17
      go_wp2_with fail
      refine hC.out.mono ?_
      rintro e w1 ⟨rfl, b1⟩
      go_wp2
      go_ret2
      exact ⟨by unfold simV; rw [HV.out]; rfl, b1⟩
    · rw [if_neg h0] at hv
      have HV := Lib.hid hv
      have t0 : ((M : Int) == 0) = false := by simp; omega
      have hz : (M : Int) ≠ 0 := by omega
      clear hv he h hM
      go_enter Tryd.func17, Tryd.ntmps17
      go_wp2_with fail
      refine hC.out.mono ?_
      rintro e w1 ⟨rfl, b1⟩
      go_wp2
      go_ret2
      refine ⟨?_, b1⟩
      unfold simV
      rw [HV.out]
      refine ret_two ?_ rfl
      have hmd : (M : Int) - (D : Int) = ((M - D : Nat) : Int) := by omega
      show 1000 * ((M : Int) - (D : Int)) / (M : Int) = ((1000 * (M - D) / M : Nat) : Int)
      rw [hmd, Int.natCast_ediv, Int.natCast_mul]
      rfl
end Go.Proofs.YtgokinfejbefjaaDoor
