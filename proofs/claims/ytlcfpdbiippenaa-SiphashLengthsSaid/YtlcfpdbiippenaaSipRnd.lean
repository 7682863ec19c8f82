/- The walk of the program's round of a state. -/
import Derived.Test.YtlcfpdbiippenaaSipRot
import Derived.Deep.RegionHeld3
import Derived.Deep.RegionWith
namespace Go.Proofs.Ytlcfpdbiippenaa
open Go.RowKit
set_option linter.unusedVariables false
set_option maxRecDepth 100000

/-- A state in a block of its own. -/
def SAt (b : Nat) (w : World) (v : SM.V) : Prop := w.heap[b]? = some (.cells #[.int .u64 (n64 v.a), .int .u64 (n64 v.b), .int .u64 (n64 v.c), .int .u64 (n64 v.d)] 48 (0, 0))
theorem SAt.put0 {b : Nat} {w : World} {v : SM.V} (h : SAt b w v) (u : UInt64) : SAt b (w.setCell ⟨b, 0, none⟩ (.int .u64 (n64 u))) { v with a := u } := cells_set h 0 _
theorem SAt.put1 {b : Nat} {w : World} {v : SM.V} (h : SAt b w v) (u : UInt64) : SAt b (w.setCell ⟨b, 1, none⟩ (.int .u64 (n64 u))) { v with b := u } := cells_set h 1 _
theorem SAt.put2 {b : Nat} {w : World} {v : SM.V} (h : SAt b w v) (u : UInt64) : SAt b (w.setCell ⟨b, 2, none⟩ (.int .u64 (n64 u))) { v with c := u } := cells_set h 2 _
theorem SAt.put3 {b : Nat} {w : World} {v : SM.V} (h : SAt b w v) (u : UInt64) : SAt b (w.setCell ⟨b, 3, none⟩ (.int .u64 (n64 u))) { v with d := u } := cells_set h 3 _
theorem SAt.put {b : Nat} {w : World} {v : SM.V} (h : SAt b w v) (u : SM.V) :
    SAt b ((((w.setCell ⟨b, 0, none⟩ (.int .u64 (n64 u.a))).setCell ⟨b, 1, none⟩ (.int .u64 (n64 u.b))).setCell ⟨b, 2, none⟩ (.int .u64 (n64 u.c))).setCell ⟨b, 3, none⟩ (.int .u64 (n64 u.d))) u :=
  (((h.put0 u.a).put1 u.b).put2 u.c).put3 u.d
theorem SAt.parts {b : Nat} {w : World} {v : SM.V} (h : SAt b w v) : (w.cell? ⟨b, 0, none⟩ = some (.int .u64 (n64 v.a)) ∧ w.cell? ⟨b, 1, none⟩ = some (.int .u64 (n64 v.b)) ∧ w.cell? ⟨b, 2, none⟩ = some (.int .u64 (n64 v.c)) ∧ w.cell? ⟨b, 3, none⟩ = some (.int .u64 (n64 v.d))) ∧
    w.frozen? ⟨b, 0, none⟩ = false ∧ w.frozen? ⟨b, 1, none⟩ = false ∧ w.frozen? ⟨b, 2, none⟩ = false ∧ w.frozen? ⟨b, 3, none⟩ = false :=
  ⟨⟨by rw [cell_of_row _ _ _ _ _ _ h]; rfl, by rw [cell_of_row _ _ _ _ _ _ h]; rfl, by rw [cell_of_row _ _ _ _ _ _ h]; rfl, by rw [cell_of_row _ _ _ _ _ _ h]; rfl⟩, Lib.frozen_of_heap h 0, Lib.frozen_of_heap h 1, Lib.frozen_of_heap h 2, Lib.frozen_of_heap h 3⟩
theorem SAt.keep {b B : Nat} {w w' : World} {v : SM.V} (h : SAt b w v) (hb : Below B w w') (hB : b < B) : SAt b w' v := (hb.block b hB).trans h

/-- In the course of a round: the state stands in the first new block, the result's block is still empty. -/
structure RS (w W : World) (v : SM.V) : Prop where
  at_ : SAt w.heap.size W v
  res : W.heap[w.heap.size + 1]? = some (.cells #[.int .u64 0, .int .u64 0, .int .u64 0, .int .u64 0] 48 (0, 0))
  below : Below w.heap.size w W
theorem RS.set {w W : World} {v v' : SM.V} (h : RS w W v) (k : Nat) (x : Value) (hv : SAt w.heap.size (W.setCell ⟨w.heap.size, k, none⟩ x) v') : RS w (W.setCell ⟨w.heap.size, k, none⟩ x) v' :=
  ⟨hv, (Below.heap_setCell W ⟨w.heap.size, k, none⟩ _ _ (by show w.heap.size + 1 ≠ w.heap.size; omega)).trans h.res, h.below.setCell (p := ⟨w.heap.size, k, none⟩) (Nat.le_refl _) _⟩
theorem RS.drew {w W : World} {v : SM.V} (h : RS w W v) : RS w W.drew v := ⟨h.at_, h.res, h.below.drew⟩
theorem RS.put0 {w W : World} {v : SM.V} (h : RS w W v) (u : UInt64) : RS w (W.setCell ⟨w.heap.size, 0, none⟩ (.int .u64 (n64 u))) { v with a := u } := h.set 0 _ (h.at_.put0 u)
theorem RS.put1 {w W : World} {v : SM.V} (h : RS w W v) (u : UInt64) : RS w (W.setCell ⟨w.heap.size, 1, none⟩ (.int .u64 (n64 u))) { v with b := u } := h.set 1 _ (h.at_.put1 u)
theorem RS.put2 {w W : World} {v : SM.V} (h : RS w W v) (u : UInt64) : RS w (W.setCell ⟨w.heap.size, 2, none⟩ (.int .u64 (n64 u))) { v with c := u } := h.set 2 _ (h.at_.put2 u)
theorem RS.put3 {w W : World} {v : SM.V} (h : RS w W v) (u : UInt64) : RS w (W.setCell ⟨w.heap.size, 3, none⟩ (.int .u64 (n64 u))) { v with d := u } := h.set 3 _ (h.at_.put3 u)
theorem rs_start (w : World) (v : SM.V) : RS w ((w.alloc (.cells #[.int .u64 (n64 v.a), .int .u64 (n64 v.b), .int .u64 (n64 v.c), .int .u64 (n64 v.d)] 48)).alloc (.cells #[.int .u64 0, .int .u64 0, .int .u64 0, .int .u64 0] 48)) v :=
  ⟨(Below.heap_alloc _ _ _ (by simp)).trans (heap_alloc_new w _), heap_two8 w _ _ _, two_new8 w _ _⟩

/-- Several ways that come to one end: the end is walked once. -/
theorem via_one {p q : Prop} (h : Hid p → q) (hp : p) : q := h hp

set_option maxHeartbeats 2000000 in
theorem sround_any (v : SM.V) (w : World) :
    Calls Try.prog 32 #[vV v] w fun e w' => e = .returned (vV (SM.round v)) ∧ Below w.heap.size w w' := by
  obtain ⟨a, b, c, d⟩ := v
  have H1 := Lib.hid (rs_start w ⟨a + b, b, c, d⟩)
  have HZ := Lib.hid (show vV (SM.round ⟨a, b, c, d⟩) = vV ⟨SM.rotl (a + b) 32 + (SM.rotl d 16 ^^^ (c + d)), SM.rotl (SM.rotl b 13 ^^^ (a + b)) 17 ^^^ (c + d + (SM.rotl b 13 ^^^ (a + b))), SM.rotl (c + d + (SM.rotl b 13 ^^^ (a + b))) 32, SM.rotl (SM.rotl d 16 ^^^ (c + d)) 21 ^^^ (SM.rotl (a + b) 32 + (SM.rotl d 16 ^^^ (c + d)))⟩ from rfl)
  rw [HZ.out]
  clear HZ
  unfold vV
  simp only at H1 ⊢
  go_enter Try.func32, Try.ntmps32
  have e1 := n64_add a b
  generalize hv1 : a + b = A1 at *
  go_wp2_with fail
  obtain ⟨W1, hW1⟩ : ∃ W, W = ((w.alloc (.cells #[.int .u64 (n64 A1), .int .u64 (n64 b), .int .u64 (n64 c), .int .u64 (n64 d)] 48)).alloc (.cells #[.int .u64 0, .int .u64 0, .int .u64 0, .int .u64 0] 48)) := ⟨_, rfl⟩
  rw [← hW1] at H1 ⊢
  clear hW1 e1 hv1
  obtain ⟨⟨z0, z1, z2, z3⟩, f0, f1, f2, f3⟩ := H1.out.at_.parts
  simp only at z0 z1 z2 z3
  have hx := n64_xor (SM.rotl b 13) A1
  generalize hE : SM.rotl b 13 ^^^ A1 = B1 at *
  have EB1 := Lib.hid hE
  clear hE
  have H2 := Lib.hid (H1.out.put1 B1).drew
  simp only at H2
  apply via_one
  · intro hN
    go_region_with (go_at_call 34; refine (rot13_any b _).mono ?_; rintro e w1 ⟨rfl, rfl⟩)
    all_goals exact hN.out
  clear z0 z1 z2 z3 f0 f1 f2 f3 H1 hx
  obtain ⟨W2, hW2⟩ : ∃ W, W = (W1.setCell ⟨w.heap.size, 1, none⟩ (.int .u64 (n64 B1))).drew := ⟨_, rfl⟩
  rw [← hW2] at H2 ⊢
  clear hW2
  obtain ⟨⟨z0, z1, z2, z3⟩, f0, f1, f2, f3⟩ := H2.out.at_.parts
  simp only at z0 z1 z2 z3
  go_wp2_with fail
  refine (rot32_any A1 _).mono ?_
  rintro e w1 ⟨rfl, hw⟩
  subst w1
  generalize hE : SM.rotl A1 32 = A2 at *
  have EA2 := Lib.hid hE
  clear hE
  have H3 := Lib.hid (H2.out.put0 A2)
  simp only at H3
  have hx := n64_add c d
  generalize hE : c + d = C1 at *
  have EC1 := Lib.hid hE
  clear hE
  have H4 := Lib.hid (H3.out.put2 C1)
  simp only at H4
  go_wp2_with fail
  clear z0 z1 z2 z3 f0 f1 f2 f3 H2 H3 hx
  obtain ⟨W4, hW4⟩ : ∃ W, W = (W2.setCell ⟨w.heap.size, 0, none⟩ (.int .u64 (n64 A2))).setCell ⟨w.heap.size, 2, none⟩ (.int .u64 (n64 C1)) := ⟨_, rfl⟩
  rw [← hW4] at H4 ⊢
  clear hW4
  obtain ⟨⟨z0, z1, z2, z3⟩, f0, f1, f2, f3⟩ := H4.out.at_.parts
  simp only at z0 z1 z2 z3
  have hx := n64_xor (SM.rotl d 16) C1
  generalize hE : SM.rotl d 16 ^^^ C1 = D1 at *
  have ED1 := Lib.hid hE
  clear hE
  have H5 := Lib.hid (H4.out.put3 D1).drew
  simp only at H5
  apply via_one
  · intro hN
    go_region_with (go_at_call 34; refine (rot16_any d _).mono ?_; rintro e w1 ⟨rfl, rfl⟩)
    all_goals exact hN.out
  clear z0 z1 z2 z3 f0 f1 f2 f3 H4 hx
  obtain ⟨W5, hW5⟩ : ∃ W, W = (W4.setCell ⟨w.heap.size, 3, none⟩ (.int .u64 (n64 D1))).drew := ⟨_, rfl⟩
  rw [← hW5] at H5 ⊢
  clear hW5
  obtain ⟨⟨z0, z1, z2, z3⟩, f0, f1, f2, f3⟩ := H5.out.at_.parts
  simp only at z0 z1 z2 z3
  have hx := n64_add A2 D1
  generalize hE : A2 + D1 = A3 at *
  have EA3 := Lib.hid hE
  clear hE
  have H6 := Lib.hid (H5.out.put0 A3)
  simp only at H6
  go_wp2_with fail
  clear z0 z1 z2 z3 f0 f1 f2 f3 H5 hx
  obtain ⟨W6, hW6⟩ : ∃ W, W = (W5.setCell ⟨w.heap.size, 0, none⟩ (.int .u64 (n64 A3))) := ⟨_, rfl⟩
  rw [← hW6] at H6 ⊢
  clear hW6
  obtain ⟨⟨z0, z1, z2, z3⟩, f0, f1, f2, f3⟩ := H6.out.at_.parts
  simp only at z0 z1 z2 z3
  have hx := n64_xor (SM.rotl D1 21) A3
  generalize hE : SM.rotl D1 21 ^^^ A3 = D2 at *
  have ED2 := Lib.hid hE
  clear hE
  have H7 := Lib.hid (H6.out.put3 D2).drew
  simp only at H7
  apply via_one
  · intro hN
    go_region_with (go_at_call 34; refine (rot21_any D1 _).mono ?_; rintro e w1 ⟨rfl, rfl⟩)
    all_goals exact hN.out
  clear z0 z1 z2 z3 f0 f1 f2 f3 H6 hx
  obtain ⟨W7, hW7⟩ : ∃ W, W = (W6.setCell ⟨w.heap.size, 3, none⟩ (.int .u64 (n64 D2))).drew := ⟨_, rfl⟩
  rw [← hW7] at H7 ⊢
  clear hW7
  obtain ⟨⟨z0, z1, z2, z3⟩, f0, f1, f2, f3⟩ := H7.out.at_.parts
  simp only at z0 z1 z2 z3
  have hx := n64_add C1 B1
  generalize hE : C1 + B1 = C2 at *
  have EC2 := Lib.hid hE
  clear hE
  have H8 := Lib.hid (H7.out.put2 C2)
  simp only at H8
  go_wp2_with fail
  clear z0 z1 z2 z3 f0 f1 f2 f3 H7 hx
  obtain ⟨W8, hW8⟩ : ∃ W, W = (W7.setCell ⟨w.heap.size, 2, none⟩ (.int .u64 (n64 C2))) := ⟨_, rfl⟩
  rw [← hW8] at H8 ⊢
  clear hW8
  obtain ⟨⟨z0, z1, z2, z3⟩, f0, f1, f2, f3⟩ := H8.out.at_.parts
  simp only at z0 z1 z2 z3
  have hx := n64_xor (SM.rotl B1 17) C2
  generalize hE : SM.rotl B1 17 ^^^ C2 = B2 at *
  have EB2 := Lib.hid hE
  clear hE
  have H9 := Lib.hid (H8.out.put1 B2).drew
  simp only at H9
  apply via_one
  · intro hN
    go_region_with (go_at_call 34; refine (rot17_any B1 _).mono ?_; rintro e w1 ⟨rfl, rfl⟩)
    all_goals exact hN.out
  clear z0 z1 z2 z3 f0 f1 f2 f3 H8 hx
  obtain ⟨W9, hW9⟩ : ∃ W, W = (W8.setCell ⟨w.heap.size, 1, none⟩ (.int .u64 (n64 B2))).drew := ⟨_, rfl⟩
  rw [← hW9] at H9 ⊢
  clear hW9
  obtain ⟨⟨z0, z1, z2, z3⟩, f0, f1, f2, f3⟩ := H9.out.at_.parts
  simp only at z0 z1 z2 z3
  go_wp2_with fail
  refine (rot32_any C2 _).mono ?_
  rintro e w1 ⟨rfl, hw⟩
  subst w1
  generalize hE : SM.rotl C2 32 = C3 at *
  have EC3 := Lib.hid hE
  clear hE
  have H10 := Lib.hid (H9.out.put2 C3)
  simp only at H10
  have hrb := H10.out.res
  have y0 : (W9.setCell ⟨w.heap.size, 2, none⟩ (.int .u64 (n64 C3))).cell? ⟨w.heap.size, 0, none⟩ = some (.int .u64 (n64 A3)) := H10.out.at_.parts.1.1
  have y1 : (W9.setCell ⟨w.heap.size, 2, none⟩ (.int .u64 (n64 C3))).cell? ⟨w.heap.size, 1, none⟩ = some (.int .u64 (n64 B2)) := H10.out.at_.parts.1.2.1
  have y2 : (W9.setCell ⟨w.heap.size, 2, none⟩ (.int .u64 (n64 C3))).cell? ⟨w.heap.size, 2, none⟩ = some (.int .u64 (n64 C3)) := H10.out.at_.parts.1.2.2.1
  have y3 : (W9.setCell ⟨w.heap.size, 2, none⟩ (.int .u64 (n64 C3))).cell? ⟨w.heap.size, 3, none⟩ = some (.int .u64 (n64 D2)) := H10.out.at_.parts.1.2.2.2
  have q0 : (W9.setCell ⟨w.heap.size, 2, none⟩ (.int .u64 (n64 C3))).cell? ⟨w.heap.size + 1, 0, none⟩ = some (.int .u64 0) := by rw [cell_of_row _ _ _ _ _ _ hrb]; rfl
  have q1 : (W9.setCell ⟨w.heap.size, 2, none⟩ (.int .u64 (n64 C3))).cell? ⟨w.heap.size + 1, 1, none⟩ = some (.int .u64 0) := by rw [cell_of_row _ _ _ _ _ _ hrb]; rfl
  have q2 : (W9.setCell ⟨w.heap.size, 2, none⟩ (.int .u64 (n64 C3))).cell? ⟨w.heap.size + 1, 2, none⟩ = some (.int .u64 0) := by rw [cell_of_row _ _ _ _ _ _ hrb]; rfl
  have q3 : (W9.setCell ⟨w.heap.size, 2, none⟩ (.int .u64 (n64 C3))).cell? ⟨w.heap.size + 1, 3, none⟩ = some (.int .u64 0) := by rw [cell_of_row _ _ _ _ _ _ hrb]; rfl
  have g0 := Lib.frozen_of_heap hrb 0
  have g1 := Lib.frozen_of_heap hrb 1
  have g2 := Lib.frozen_of_heap hrb 2
  have g3 := Lib.frozen_of_heap hrb 3
  clear hrb
  have hrr : ((((((W9.setCell ⟨w.heap.size, 2, none⟩ (.int .u64 (n64 C3))).setCell ⟨w.heap.size + 1, 0, none⟩ (.int .u64 (n64 A3))).setCell ⟨w.heap.size + 1, 1, none⟩ (.int .u64 (n64 B2))).setCell ⟨w.heap.size + 1, 2, none⟩ (.int .u64 (n64 C3))).setCell ⟨w.heap.size + 1, 3, none⟩ (.int .u64 (n64 D2)))).heap[w.heap.size + 1]? = some (.cells #[.int .u64 (n64 A3), .int .u64 (n64 B2), .int .u64 (n64 C3), .int .u64 (n64 D2)] 48 (0, 0)) :=
    cells_set (cells_set (cells_set (cells_set H10.out.res 0 (.int .u64 (n64 A3))) 1 (.int .u64 (n64 B2))) 2 (.int .u64 (n64 C3))) 3 (.int .u64 (n64 D2))
  have HRR := Lib.hid hrr
  clear hrr
  have HB := Lib.hid ((((H10.out.below.setCell (p := ⟨w.heap.size + 1, 0, none⟩) (Nat.le_succ _) (.int .u64 (n64 A3))).setCell (p := ⟨w.heap.size + 1, 1, none⟩) (Nat.le_succ _) (.int .u64 (n64 B2))).setCell (p := ⟨w.heap.size + 1, 2, none⟩) (Nat.le_succ _) (.int .u64 (n64 C3))).setCell (p := ⟨w.heap.size + 1, 3, none⟩) (Nat.le_succ _) (.int .u64 (n64 D2)))
  go_wp2
  have x0 := cell_of_row _ _ 0 _ _ _ HRR.out
  have x1 := cell_of_row _ _ 1 _ _ _ HRR.out
  have x2 := cell_of_row _ _ 2 _ _ _ HRR.out
  have x3 := cell_of_row _ _ 3 _ _ _ HRR.out
  clear y0 y1 y2 y3 q0 q1 q2 q3 g0 g1 g2 g3 z0 z1 z2 z3 f0 f1 f2 f3
  refine bodyPost_ret (v := .agg #[.int .u64 (n64 A3), .int .u64 (n64 B2), .int .u64 (n64 C3), .int .u64 (n64 D2)]) (by simp [results, Try.results32, go_sem, x0, x1, x2, x3]) rfl ⟨?_, HB.out⟩
  rw [EC1.out, ED1.out, EB1.out, EA2.out, EA3.out, EC2.out, ED2.out, EB2.out, EC3.out]
end Go.Proofs.Ytlcfpdbiippenaa
