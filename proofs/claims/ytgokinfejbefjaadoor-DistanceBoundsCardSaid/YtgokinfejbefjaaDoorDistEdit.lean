/- Walks of the reference's Edit and Similar. -/
import Derived.Test.YtgokinfejbefjaaDoorDistTab
namespace Go.Proofs.YtgokinfejbefjaaDoor
open Go.RowKit
set_option maxRecDepth 100000

def distB (a b : ByteArray) : Nat := DM.dist a.data.toList b.data.toList
theorem tabN_all (a b : ByteArray) : tabN a b a.size b.size = distB a b := by
  unfold tabN DM.tab distB
  rw [List.take_of_length_le (by simp), List.take_of_length_le (by simp)]
theorem distB_max (a b : ByteArray) : distB a b ≤ max a.size b.size := by
  have := DM.dist_max a.data.toList b.data.toList
  rw [size_list, size_list] at this
  exact this
theorem since_below {B : Nat} {w w' : World} (h : w.Since B w') : Below B w w' := ⟨h.os, h.tape, h.output, h.size, h.block⟩
def editN (a b : ByteArray) : Nat × Nat := if 64 < a.size ∨ 64 < b.size then (0, 1) else (distB a b, 0)
def editV (a b : ByteArray) : Value := .tuple #[.int .i64 ((editN a b).1 : Int), .int .i64 ((editN a b).2 : Int)]
theorem ret_two {x y x' y' : Int} (h : x = x') (h2 : y = y') : Ending.returned (.tuple #[.int .i64 x, .int .i64 y]) = .returned (.tuple #[.int .i64 x', .int .i64 y']) := by rw [h, h2]

set_option maxHeartbeats 1000000 in
theorem rEdit_any (a b : ByteArray) (w : World) (ha : a.size ≤ maxLen) (hb : b.size ≤ maxLen) :
    Calls Tryd.prog 14 #[.string a, .string b] w fun e w' => e = .returned (editV a b) ∧ Below w.heap.size w w' := by
  unfold maxLen at ha hb
  by_cases h : 64 < a.size ∨ 64 < b.size
  · have hv : editV a b = .tuple #[.int .i64 0, .int .i64 1] := by unfold editV editN; rw [if_pos h]; rfl
    have HV := Lib.hid hv
    clear hv
    go_enter Tryd.func14, Tryd.ntmps14
    by_cases h1 : 64 < a.size
    · go_wp2
      go_ret2
      exact ⟨by rw [HV.out]; rfl, Below.refl _ _⟩
    · have h2 : 64 < b.size := h.resolve_left h1
      go_wp2
      go_ret2
      exact ⟨by rw [HV.out]; rfl, Below.refl _ _⟩
  · have h1 : a.size ≤ 64 := by omega
    have h2 : b.size ≤ 64 := by omega
    have hv : editV a b = .tuple #[.int .i64 (distB a b : Int), .int .i64 0] := by unfold editV editN; rw [if_neg h]; rfl
    have HV := Lib.hid hv
    clear hv h
    go_enter Tryd.func14, Tryd.ntmps14
    go_wp2_with fail
    refine (rtable_any a b w h1 h2).mono ?_
    rintro e w1 ⟨rfl, hT⟩
    have c1 : w1.cell? ⟨w.heap.size, a.size, none⟩ = some (.slice (some ⟨w.heap.size + 1 + a.size, 0, none⟩) (b.size + 1) (b.size + 1)) := by
      have := hT.top.cell (i := a.size) (by omega)
      unfold topV at this
      rwa [if_pos (by omega)] at this
    have c2 : w1.cell? ⟨w.heap.size + 1 + a.size, b.size, none⟩ = some (.int .i64 (distB a b : Int)) := by
      have := (hT.done a.size (by omega)).cell (i := b.size) (by omega)
      rwa [tabN_all] at this
    have hB := since_below hT.since
    have j1 : (a.size : Int) < (a.size : Int) + 1 := by omega
    have j2 : (b.size : Int) < (b.size : Int) + 1 := by omega
    clear hT
    go_wp2
    go_ret2
    exact ⟨by rw [HV.out]; rfl, hB⟩

def simN (a b : ByteArray) : Nat × Nat := if 64 < a.size ∨ 64 < b.size then (0, 1) else if max a.size b.size = 0 then (1000, 0) else (1000 * (max a.size b.size - distB a b) / max a.size b.size, 0)
def simV (a b : ByteArray) : Value := .tuple #[.int .i64 ((simN a b).1 : Int), .int .i64 ((simN a b).2 : Int)]
theorem max2 {W : World} (ts : Array TypeId) (t : TypeId) (x y : Int) (M : Nat) (h : (M : Int) = max x y) : (Builtin.max_ ts t #[.int .i64 x, .int .i64 y]).run Tryd.prog W = .ok (.int .i64 (M : Int)) W := by
  rw [run_max_int2]
  congr 2
  rw [h]
  split <;> omega
set_option maxHeartbeats 1000000 in
theorem rSimilar_any (a b : ByteArray) (w : World) (ha : a.size ≤ maxLen) (hb : b.size ≤ maxLen) :
    Calls Tryd.prog 18 #[.string a, .string b] w fun e w' => e = .returned (simV a b) ∧ Below w.heap.size w w' := by
  have hC := Lib.hid (rEdit_any a b w ha hb)
  unfold maxLen at ha hb
  by_cases h : 64 < a.size ∨ 64 < b.size
  · have hv : simV a b = .tuple #[.int .i64 0, .int .i64 1] := by unfold simV simN; rw [if_pos h]; rfl
    have he : editV a b = .tuple #[.int .i64 0, .int .i64 1] := by unfold editV editN; rw [if_pos h]; rfl
    have HV := Lib.hid hv
    have HE := Lib.hid he
    clear hv he h
    rw [HE.out] at hC
    go_enter Tryd.func18, Tryd.ntmps18
    go_wp2_with fail
    refine hC.out.mono ?_
    rintro e w1 ⟨rfl, b1⟩
    go_wp2
    go_ret2
    exact ⟨by rw [HV.out]; rfl, b1⟩
  · have he : editV a b = .tuple #[.int .i64 (distB a b : Int), .int .i64 0] := by unfold editV editN; rw [if_neg h]; rfl
    have hd := distB_max a b
    rw [he] at hC
    obtain ⟨M, hM⟩ : ∃ M, M = max a.size b.size := ⟨_, rfl⟩
    have hmx := fun (W : World) (ts : Array TypeId) (ty : TypeId) => max2 (W := W) ts ty (a.size : Int) (b.size : Int) M (by omega)
    have hM64 : M ≤ 64 := by omega
    rw [← hM] at hd
    have hv : simN a b = if M = 0 then (1000, 0) else (1000 * (M - distB a b) / M, 0) := by unfold simN; rw [if_neg h, ← hM]
    generalize distB a b = D at *
    by_cases h0 : M = 0
    · rw [if_pos h0] at hv
      have HV := Lib.hid hv
      have t0 : ((M : Int) == 0) = true := by simp; omega
      clear hv he h hM hd
      go_enter Tryd.func18, Tryd.ntmps18
      go_wp2_with fail
      refine hC.out.mono ?_
      rintro e w1 ⟨rfl, b1⟩
      go_wp2
      go_ret2
      exact ⟨by unfold simV; rw [HV.out]; rfl, b1⟩
    · rw [if_neg h0] at hv
      have HV := Lib.hid hv
      have t0 : ((M : Int) == 0) = false := by simp; omega
      have hz : (M : Int) ≠ 0 := by omega
      clear hv he h hM
      go_enter Tryd.func18, Tryd.ntmps18
      go_wp2_with fail
      refine hC.out.mono ?_
      rintro e w1 ⟨rfl, b1⟩
      go_wp2
      go_ret2
      refine ⟨?_, b1⟩
      unfold simV
      rw [HV.out]
      refine ret_two ?_ rfl
      have hmd : (M : Int) - (D : Int) = ((M - D : Nat) : Int) := by omega
      show 1000 * ((M : Int) - (D : Int)) / (M : Int) = ((1000 * (M - D) / M : Nat) : Int)
      rw [hmd, Int.natCast_ediv, Int.natCast_mul]
      rfl
end Go.Proofs.YtgokinfejbefjaaDoor
