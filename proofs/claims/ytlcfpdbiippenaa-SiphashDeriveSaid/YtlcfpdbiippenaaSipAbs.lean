/- The walks of the program's begin, absorb and finish. -/
import Derived.Test.YtlcfpdbiippenaaSipRnd
namespace Go.Proofs.Ytlcfpdbiippenaa
open Go.RowKit
set_option linter.unusedVariables false
set_option maxRecDepth 100000

theorem RS.keep {w W W' : World} {v : SM.V} (h : RS w W v) (hs : w.heap.size + 2 ≤ W.heap.size) (hb : Below W.heap.size W W') : RS w W' v :=
  ⟨h.at_.keep hb (by omega), (hb.block _ (by omega)).trans h.res, h.below.trans (hb.mono (by omega))⟩
theorem RS.put {w W : World} {v : SM.V} (h : RS w W v) (u : SM.V) :
    RS w ((((W.setCell ⟨w.heap.size, 0, none⟩ (.int .u64 (n64 u.a))).setCell ⟨w.heap.size, 1, none⟩ (.int .u64 (n64 u.b))).setCell ⟨w.heap.size, 2, none⟩ (.int .u64 (n64 u.c))).setCell ⟨w.heap.size, 3, none⟩ (.int .u64 (n64 u.d))) u :=
  (((h.put0 u.a).put1 u.b).put2 u.c).put3 u.d

set_option maxHeartbeats 1000000 in
theorem begin_any (kA kB : UInt64) (w : World) :
    Calls Try.prog 23 #[keyV kA kB] w fun e w' => e = .returned (vV (SM.start kA kB)) ∧ Below w.heap.size w w' := by
  have x0 : bits .xor .u64 (n64 kA) 8317987319222330741 = n64 (kA ^^^ 8317987319222330741) := n64_xor kA 8317987319222330741
  have x1 : bits .xor .u64 (n64 kB) 7237128888997146477 = n64 (kB ^^^ 7237128888997146477) := n64_xor kB 7237128888997146477
  have x2 : bits .xor .u64 (n64 kA) 7816392313619706465 = n64 (kA ^^^ 7816392313619706465) := n64_xor kA 7816392313619706465
  have x3 : bits .xor .u64 (n64 kB) 8387220255154660723 = n64 (kB ^^^ 8387220255154660723) := n64_xor kB 8387220255154660723
  have e : vV (SM.start kA kB) = .agg #[.int .u64 (n64 (kA ^^^ 8317987319222330741)), .int .u64 (n64 (kB ^^^ 7237128888997146477)), .int .u64 (n64 (kA ^^^ 7816392313619706465)), .int .u64 (n64 (kB ^^^ 8387220255154660723))] := rfl
  rw [e]
  clear e
  unfold keyV
  go_enter Try.func23, Try.ntmps23
  go_wp2
  generalize kA ^^^ 8317987319222330741 = A1 at *
  generalize kB ^^^ 7237128888997146477 = B1 at *
  generalize kA ^^^ 7816392313619706465 = C1 at *
  generalize kB ^^^ 8387220255154660723 = D1 at *
  clear x0 x1 x2 x3
  have hb : Below w.heap.size w ((w.alloc (.cells #[.int .u64 (n64 kA), .int .u64 (n64 kB)] 25)).alloc (.cells #[.int .u64 (n64 A1), .int .u64 (n64 B1), .int .u64 (n64 C1), .int .u64 (n64 D1)] 48)) := two_new8 w _ _
  have hrr := heap_two8 w (.cells #[.int .u64 (n64 kA), .int .u64 (n64 kB)] 25) #[.int .u64 (n64 A1), .int .u64 (n64 B1), .int .u64 (n64 C1), .int .u64 (n64 D1)] 48
  have z0 := cell_of_row _ _ 0 _ _ _ hrr
  have z1 := cell_of_row _ _ 1 _ _ _ hrr
  have z2 := cell_of_row _ _ 2 _ _ _ hrr
  have z3 := cell_of_row _ _ 3 _ _ _ hrr
  exact bodyPost_ret (v := .agg #[.int .u64 (n64 A1), .int .u64 (n64 B1), .int .u64 (n64 C1), .int .u64 (n64 D1)]) (by simp [results, Try.results23, go_sem, z0, z1, z2, z3]) rfl ⟨rfl, hb⟩

set_option maxHeartbeats 2000000 in
theorem absorb_any (v : SM.V) (M : UInt64) (w : World) :
    Calls Try.prog 24 #[vV v, .int .u64 (n64 M)] w fun e w' => e = .returned (vV (SM.absorb v M)) ∧ Below w.heap.size w w' := by
  obtain ⟨va, vb, vc, vd⟩ := v
  have hX1 := n64_xor vd M
  have HD1 := Lib.hid (fun W => sround_any ⟨va, vb, vc, vd ^^^ M⟩ W)
  have HD2 := Lib.hid (fun W => sround_any (SM.round ⟨va, vb, vc, vd ^^^ M⟩) W)
  have HS := Lib.hid (rs_start w ⟨va, vb, vc, vd ^^^ M⟩)
  have HAB : SM.absorb ⟨va, vb, vc, vd⟩ M = ⟨(SM.round (SM.round ⟨va, vb, vc, vd ^^^ M⟩)).a ^^^ M, (SM.round (SM.round ⟨va, vb, vc, vd ^^^ M⟩)).b, (SM.round (SM.round ⟨va, vb, vc, vd ^^^ M⟩)).c, (SM.round (SM.round ⟨va, vb, vc, vd ^^^ M⟩)).d⟩ := rfl
  rw [HAB]
  clear HAB
  generalize SM.round (SM.round ⟨va, vb, vc, vd ^^^ M⟩) = R2 at *
  generalize SM.round ⟨va, vb, vc, vd ^^^ M⟩ = R1 at *
  unfold vV at *
  simp only at HD1 HS
  go_enter Try.func24, Try.ntmps24
  go_wp2_with fail
  obtain ⟨W1, hW1⟩ : ∃ W, W = ((w.alloc (.cells #[.int .u64 (n64 va), .int .u64 (n64 vb), .int .u64 (n64 vc), .int .u64 (n64 (vd ^^^ M))] 48)).alloc (.cells #[.int .u64 0, .int .u64 0, .int .u64 0, .int .u64 0] 48)) := ⟨_, rfl⟩
  have hs1 : w.heap.size + 2 ≤ W1.heap.size := by rw [hW1]; simp
  rw [← hW1] at HS ⊢
  clear hW1 hX1
  refine (HD1.out _).mono ?_
  rintro e w2 ⟨rfl, d2⟩
  go_wp2_with fail
  refine (HD2.out _).mono ?_
  rintro e w3 ⟨rfl, d3⟩
  have d3' := d2.trans (d3.mono d2.size)
  have H3 := Lib.hid (HS.out.keep hs1 d3')
  clear HS d2 d3 d3' hs1 HD1 HD2
  obtain ⟨⟨y0, y1, y2, y3⟩, e0, e1, e2, e3⟩ := H3.out.at_.parts
  try simp only at y0 y1 y2 y3
  have hX2 := n64_xor R2.a M
  have H5 := Lib.hid ((H3.out.put R2).put0 (R2.a ^^^ M))
  try simp only at H5
  generalize hRM : R2.a ^^^ M = RM at *
  have HRM := Lib.hid hRM
  clear hRM
  obtain ⟨⟨t0, t1, t2, t3⟩, -⟩ := H5.out.at_.parts
  have hrb := H5.out.res
  have q0 := cell_of_row _ _ 0 _ _ _ hrb
  have q1 := cell_of_row _ _ 1 _ _ _ hrb
  have q2 := cell_of_row _ _ 2 _ _ _ hrb
  have q3 := cell_of_row _ _ 3 _ _ _ hrb
  simp only [List.getElem?_toArray, List.getElem?_cons_zero, List.getElem?_cons_succ] at q0 q1 q2 q3
  have g0 := Lib.frozen_of_heap hrb 0
  have g1 := Lib.frozen_of_heap hrb 1
  have g2 := Lib.frozen_of_heap hrb 2
  have g3 := Lib.frozen_of_heap hrb 3
  have HRR := Lib.hid (cells_set (cells_set (cells_set (cells_set hrb 0 (.int .u64 (n64 RM))) 1 (.int .u64 (n64 R2.b))) 2 (.int .u64 (n64 R2.c))) 3 (.int .u64 (n64 R2.d)))
  have HB := Lib.hid ((((H5.out.below.setCell (p := ⟨w.heap.size + 1, 0, none⟩) (Nat.le_succ _) (.int .u64 (n64 RM))).setCell (p := ⟨w.heap.size + 1, 1, none⟩) (Nat.le_succ _) (.int .u64 (n64 R2.b))).setCell (p := ⟨w.heap.size + 1, 2, none⟩) (Nat.le_succ _) (.int .u64 (n64 R2.c))).setCell (p := ⟨w.heap.size + 1, 3, none⟩) (Nat.le_succ _) (.int .u64 (n64 R2.d)))
  clear hrb
  go_wp2
  have x0 := cell_of_row _ _ 0 _ _ _ HRR.out
  have x1 := cell_of_row _ _ 1 _ _ _ HRR.out
  have x2 := cell_of_row _ _ 2 _ _ _ HRR.out
  have x3 := cell_of_row _ _ 3 _ _ _ HRR.out
  clear y0 y1 y2 y3 q0 q1 q2 q3 g0 g1 g2 g3 t0 t1 t2 t3 e0 e1 e2 e3
  exact bodyPost_ret (v := .agg #[.int .u64 (n64 RM), .int .u64 (n64 R2.b), .int .u64 (n64 R2.c), .int .u64 (n64 R2.d)]) (by simp [results, Try.results24, go_sem, x0, x1, x2, x3]) rfl ⟨by rw [HRM.out], HB.out⟩

set_option maxHeartbeats 2000000 in
theorem finish_any (v : SM.V) (w : World) :
    Calls Try.prog 26 #[vV v] w fun e w' => e = .returned (.int .u64 (n64 (SM.fin v))) ∧ Below w.heap.size w w' := by
  obtain ⟨va, vb, vc, vd⟩ := v
  have hX1 : bits .xor .u64 (n64 vc) 255 = n64 (vc ^^^ 255) := n64_xor vc 255
  have H1 := Lib.hid (fun W => sround_any ⟨va, vb, vc ^^^ 255, vd⟩ W)
  have H2 := Lib.hid (fun W => sround_any (SM.round ⟨va, vb, vc ^^^ 255, vd⟩) W)
  have H3 := Lib.hid (fun W => sround_any (SM.round (SM.round ⟨va, vb, vc ^^^ 255, vd⟩)) W)
  have H4 := Lib.hid (fun W => sround_any (SM.round (SM.round (SM.round ⟨va, vb, vc ^^^ 255, vd⟩))) W)
  have HS : SAt w.heap.size (w.alloc (.cells #[.int .u64 (n64 va), .int .u64 (n64 vb), .int .u64 (n64 (vc ^^^ 255)), .int .u64 (n64 vd)] 48)) ⟨va, vb, vc ^^^ 255, vd⟩ := heap_alloc_new w _
  have hb1 : Below w.heap.size w (w.alloc (.cells #[.int .u64 (n64 va), .int .u64 (n64 vb), .int .u64 (n64 (vc ^^^ 255)), .int .u64 (n64 vd)] 48)) := (Below.refl _ w).alloc (Nat.le_refl _) _
  have HF : SM.fin ⟨va, vb, vc, vd⟩ = (SM.round (SM.round (SM.round (SM.round ⟨va, vb, vc ^^^ 255, vd⟩)))).a ^^^ (SM.round (SM.round (SM.round (SM.round ⟨va, vb, vc ^^^ 255, vd⟩)))).b ^^^ (SM.round (SM.round (SM.round (SM.round ⟨va, vb, vc ^^^ 255, vd⟩)))).c ^^^ (SM.round (SM.round (SM.round (SM.round ⟨va, vb, vc ^^^ 255, vd⟩)))).d := rfl
  rw [HF]
  clear HF
  generalize SM.round (SM.round (SM.round (SM.round ⟨va, vb, vc ^^^ 255, vd⟩))) = R4 at *
  generalize SM.round (SM.round (SM.round ⟨va, vb, vc ^^^ 255, vd⟩)) = R3 at *
  generalize SM.round (SM.round ⟨va, vb, vc ^^^ 255, vd⟩) = R2 at *
  generalize SM.round ⟨va, vb, vc ^^^ 255, vd⟩ = R1 at *
  unfold vV at *
  simp only at H1
  go_enter Try.func26, Try.ntmps26
  go_wp2_with fail
  obtain ⟨W1, hW1⟩ : ∃ W, W = (w.alloc (.cells #[.int .u64 (n64 va), .int .u64 (n64 vb), .int .u64 (n64 (vc ^^^ 255)), .int .u64 (n64 vd)] 48)) := ⟨_, rfl⟩
  have hs1 : w.heap.size + 1 = W1.heap.size := by rw [hW1]; simp
  rw [← hW1] at HS hb1 ⊢
  clear hW1 hX1
  refine (H1.out _).mono ?_
  rintro e w2 ⟨rfl, d2⟩
  go_wp2_with fail
  refine (H2.out _).mono ?_
  rintro e w3 ⟨rfl, d3⟩
  have d3' := d2.trans (d3.mono d2.size)
  clear d2 d3
  go_wp2_with fail
  refine (H3.out _).mono ?_
  rintro e w4 ⟨rfl, d4⟩
  have d4' := d3'.trans (d4.mono d3'.size)
  clear d4 d3'
  go_wp2_with fail
  refine (H4.out _).mono ?_
  rintro e w5 ⟨rfl, d5⟩
  have d5' := d4'.trans (d5.mono d4'.size)
  have H5 := Lib.hid (HS.keep d5' (by omega))
  have HB5 := Lib.hid (hb1.trans (d5'.mono (by omega)))
  clear d5 d4' d5' HS hb1 hs1 H1 H2 H3 H4
  obtain ⟨⟨y0, y1, y2, y3⟩, e0, e1, e2, e3⟩ := H5.out.parts
  try simp only at y0 y1 y2 y3
  have H6 := Lib.hid (H5.out.put R4)
  obtain ⟨⟨t0, t1, t2, t3⟩, -⟩ := H6.out.parts
  have u1 := n64_xor R4.a R4.b
  have u2 := n64_xor (R4.a ^^^ R4.b) R4.c
  have u3 := n64_xor (R4.a ^^^ R4.b ^^^ R4.c) R4.d
  have HB := Lib.hid ((((HB5.out.setCell (p := ⟨w.heap.size, 0, none⟩) (Nat.le_refl _) (.int .u64 (n64 R4.a))).setCell (p := ⟨w.heap.size, 1, none⟩) (Nat.le_refl _) (.int .u64 (n64 R4.b))).setCell (p := ⟨w.heap.size, 2, none⟩) (Nat.le_refl _) (.int .u64 (n64 R4.c))).setCell (p := ⟨w.heap.size, 3, none⟩) (Nat.le_refl _) (.int .u64 (n64 R4.d)))
  go_wp2
  go_ret
  exact ⟨rfl, HB.out⟩

theorem word_next0 (l : List UInt8) (i : Nat) (h : i < l.length) (hi : i < 8) : bits .or .u64 (n64 (SM.word l i)) (IntKind.u64.wrap (IntKind.u64.wrap (l[i].toNat : Int) * 2 ^ (8 * i))) = n64 (SM.word l (i + 1)) := by
  have := word_next l 0 i (by omega) hi
  simpa using this

set_option maxHeartbeats 2000000 in
theorem group_any (B : Nat) (v : Value) (l : List UInt8) (w : World) (h : IsBs B w v l) (hl : l.length ≤ 8) :
    Calls Try.prog 25 #[v] w fun e w' => e = .returned (.int .u64 (n64 (SM.word l l.length))) ∧ w' = w := by
  obtain ⟨A, cap, rfl, hc1, hc2, hc⟩ := h.cells
  unfold maxLen at hc2
  have HC := Lib.hid hc
  clear hc h
  go_enter Try.func25, Try.ntmps25
  go_wp2
  go_loop [3, 8] (fun mv iv => ∃ i : Nat, i ≤ l.length ∧ iv = .int .i64 i ∧ mv = .int .u64 (n64 (SM.word l i))) (fun _ iv => l.length - (intOf iv).toNat)
  case atStart => exact ⟨0, Nat.zero_le _, rfl, rfl⟩
  case round =>
    obtain ⟨i, hi, rfl, rfl⟩ := hrel
    by_cases hiN : i < l.length
    · obtain ⟨b, o, rfl, hbB, c0⟩ := HC.out i hiN
      have i1 : (i : Int) < (l.length : Int) := by omega
      have HWN := Lib.hid (word_next0 l i hiN (by omega))
      go_wp2
      exact ⟨⟨i + 1, by omega, by go_num, by rw [HWN.out]⟩, by simp [intOf]; omega⟩
    · obtain rfl : i = l.length := by omega
      go_wp2
      go_ret
      exact ⟨rfl, rfl⟩
end Go.Proofs.Ytlcfpdbiippenaa
