/- awake and same. -/
import Derived.Test.YtfcnodiepdnegaaBitProg
namespace Go.Proofs.Ytfcnodiepdnegaa
open Go.RowKit
set_option linter.unusedVariables false
set_option maxRecDepth 100000

theorem OwnsW.bits {base : Nat} {w : World} {u : Value} {L : Int} {l : List UInt64} (h : OwnsW base w u l) (hr : InRange L) : IsBits w.heap.size w (.agg #[.int .i64 L, u]) L l := ⟨u, rfl, h.is, hr.1, hr.2⟩
theorem same_al {W0 W : World} {u : Obj} (h : Below W0.heap.size W0 W) : Below W0.heap.size W0 (W.alloc u) := h.alloc h.size u
theorem same_set {W0 W : World} {b k : Nat} {u : Value} (h : Below W0.heap.size W0 W) (hb : W0.heap.size ≤ b) : Below W0.heap.size W0 (W.setCell ⟨b, k, none⟩ u) := h.setCell (p := ⟨b, k, none⟩) hb u
theorem row2 {w : World} {b : Nat} {T : TypeId} {x y : Value} (h : w.heap[b]? = some (.cells #[x, y] T (0, 0))) : (w.cell? ⟨b, 0, none⟩ = some x ∧ w.cell? ⟨b, 1, none⟩ = some y) ∧ w.frozen? ⟨b, 0, none⟩ = false ∧ w.frozen? ⟨b, 1, none⟩ = false :=
  ⟨⟨by rw [cell_of_row _ _ _ _ _ _ h]; rfl, by rw [cell_of_row _ _ _ _ _ _ h]; rfl⟩, Lib.frozen_of_heap h 0, Lib.frozen_of_heap h 1⟩
set_option maxHeartbeats 1000000 in
theorem same_any (B : Nat) (v v2 : Value) (L L2 : Int) (l l2 : List UInt64) (w : World) (ha : IsBits B w v L l) (hb : IsBits B w v2 L2 l2) (hB : B ≤ w.heap.size) :
    Calls Try.prog 15 #[v, v2] w fun e w' => e = .returned (.bool (BM.cmpM L l L2 l2 == 0)) ∧ Below w.heap.size w w' := by
  obtain ⟨A, c, rfl, HA, -⟩ := ha.open_
  obtain ⟨A2, c2, rfl, HB2, -⟩ := hb.open_
  clear ha hb
  have HC := Lib.hid (fun W h1 h2 hB => rCompare_any B (.agg #[.int .i64 L, .slice A l.length c]) (.agg #[.int .i64 L2, .slice A2 l2.length c2]) L L2 l l2 W h1 h2 hB)
  have hbw := two_new8 w (.cells #[.int .i64 L, .slice A l.length c] 25) (.cells #[.int .i64 L2, .slice A2 l2.length c2] 25)
  have hs1 : w.heap.size + 2 = ((w.alloc (.cells #[.int .i64 L, .slice A l.length c] 25)).alloc (.cells #[.int .i64 L2, .slice A2 l2.length c2] 25)).heap.size := by simp
  generalize BM.cmpM L l L2 l2 = R at *
  go_enter Try.func15, Try.ntmps15
  go_wp2_with fail
  generalize (w.alloc (.cells #[.int .i64 L, .slice A l.length c] 25)).alloc (.cells #[.int .i64 L2, .slice A2 l2.length c2] 25) = W1 at *
  refine (HC.out _ (HA.out.keep (hbw.mono hB)) (HB2.out.keep (hbw.mono hB)) (by omega)).mono ?_
  rintro e w2 ⟨rfl, b2⟩
  have hb2 := same_of hbw b2
  go_wp2
  go_ret
  exact ⟨rfl, hb2⟩
theorem same_self (B : Nat) (v v2 : Value) (L : Int) (l : List UInt64) (w : World) (ha : IsBits B w v L l) (hb : IsBits B w v2 L l) (hB : B ≤ w.heap.size) :
    Calls Try.prog 15 #[v, v2] w fun e w' => e = .returned (.bool true) ∧ Below w.heap.size w w' := by
  have := same_any B v v2 L L l l w ha hb hB
  rw [BM.cmpM_self] at this
  exact this

theorem new_64 : BM.newM 64 = (0, 64, [0]) := by decide
theorem set_63 : BM.setM 64 [0] 63 = (0, 64, [0x8000000000000000]) := by decide +kernel
theorem set_0 : BM.setM 64 [0x8000000000000000] 0 = (0, 64, [0x8000000000000001]) := by decide +kernel
theorem count_2 : BM.countM 64 [0x8000000000000001] = 2 := by decide +kernel
theorem has_63 : BM.hasM 64 [0x8000000000000001] 63 = true := by decide +kernel
theorem has_1 : BM.hasM 64 [0x8000000000000001] 1 = false := by decide +kernel
theorem hex_1 : hexM 64 [0x8000000000000001] = .tuple #[.string ⟨#[56, 48, 48, 48, 48, 48, 48, 48, 48, 48, 48, 48, 48, 48, 48, 49]⟩, .int .i64 0] := by
  unfold hexM
  rw [if_pos (by decide)]
  have : BM.hexL [0x8000000000000001] = [56, 48, 48, 48, 48, 48, 48, 48, 48, 48, 48, 48, 48, 48, 48, 49] := by decide +kernel
  rw [this]
  rfl
theorem range_64 : InRange 64 := by unfold InRange; decide
set_option maxHeartbeats 2000000 in
theorem awake9_any (w : World) (hE : PEnv w) : Calls Try.prog 8 #[] w fun e w' => e = .returned (.bool true) ∧ Below w.heap.size w w' := by
  have HE := Lib.hid (fun W (h : Below w.heap.size w W) => hE.below h (Nat.le_refl _))
  have C1 := pNew_any 64 w hE range_64
  rw [new_64] at C1
  have HC1 := Lib.hid C1
  clear C1 hE
  go_enter Try.func8, Try.ntmps8
  go_wp2_with fail
  refine HC1.out.mono ?_
  rintro e w1 ⟨u1, rfl, ho1, -, b1⟩
  obtain ⟨A1, c1, rfl⟩ : ∃ A c, u1 = .slice A 1 c := ho1.slice_
  have hx1 := heap_alloc_new w1 (.cells #[.int .i64 64, .slice A1 1 c1] 25)
  have hb1 := same_al (u := .cells #[.int .i64 64, .slice A1 1 c1] 25) b1
  have hI1 : IsBits w1.heap.size (w1.alloc (.cells #[.int .i64 64, .slice A1 1 c1] 25)) (.agg #[.int .i64 64, .slice A1 1 c1]) 64 [0] := (ho1.bits range_64).keep ((Below.refl _ w1).alloc (Nat.le_refl _) _)
  have hs1 : (w1.alloc (.cells #[.int .i64 64, .slice A1 1 c1] 25)).heap.size = w1.heap.size + 1 := by simp
  go_wp2_with fail
  have hX : w.heap.size ≤ w1.heap.size := b1.size
  generalize hWA : w1.alloc (.cells #[.int .i64 64, .slice A1 1 c1] 25) = WA at *
  clear hWA ho1 b1
  generalize w1.heap.size = X at *
  have C2 := pSet_any X _ 64 [0] 63 WA (HE.out _ hb1) hI1 (by omega)
  rw [set_63] at C2
  have HC2 := Lib.hid C2
  clear C2 hI1
  refine HC2.out.mono ?_
  rintro e w2 ⟨u2, rfl, ho2, -, b2⟩
  obtain ⟨A2, c2, rfl⟩ : ∃ A c, u2 = .slice A 1 c := ho2.slice_
  have hx2 := (b2.block X (by omega)).trans hx1
  have hb2 := same_of hb1 b2
  have hs2 := b2.size
  obtain ⟨⟨y0, y1⟩, f0, f1⟩ := row2 hx2
  have hx2' := cells_set (cells_set hx2 0 (.int .i64 64)) 1 (.slice A2 1 c2)
  have hb2' := same_set (b := X) (k := 1) (u := .slice A2 1 c2) (same_set (b := X) (k := 0) (u := .int .i64 64) hb2 hX) hX
  have ho2' := (ho2.set (p := ⟨X, 0, none⟩) (by show X < WA.heap.size; omega) (.int .i64 64)).set (p := ⟨X, 1, none⟩) (by show X < WA.heap.size; omega) (.slice A2 1 c2)
  have HH2 := Lib.hid (And.intro hx2' (And.intro hb2' ho2'))
  clear hx1 hb1 hs1 b2 hx2 hb2 hx2' hb2' ho2 ho2' HC1 HC2
  go_wp2_with fail
  obtain ⟨WB, hWB⟩ : ∃ W, W = (w2.setCell ⟨X, 0, none⟩ (.int .i64 64)).setCell ⟨X, 1, none⟩ (.slice A2 1 c2) := ⟨_, rfl⟩
  have hxB : WB.heap[X]? = some (.cells #[.int .i64 64, .slice A2 1 c2] 25 (0, 0)) := by rw [hWB]; exact HH2.out.1
  have hbB : Below w.heap.size w WB := by rw [hWB]; exact HH2.out.2.1
  have hoB : OwnsW WA.heap.size WB (.slice A2 1 c2) [0x8000000000000000] := by rw [hWB]; exact HH2.out.2.2
  rw [← hWB]
  have hsB : WB.heap.size = w2.heap.size := by rw [hWB]; simp [World.setCell]
  clear hWB HH2 y0 y1 f0 f1
  have C3 := pSet_any WB.heap.size _ 64 [0x8000000000000000] 0 WB (HE.out _ hbB) (hoB.bits range_64) (Nat.le_refl _)
  rw [set_0] at C3
  have HC3 := Lib.hid C3
  clear C3 hoB
  refine HC3.out.mono ?_
  rintro e w3 ⟨u3, rfl, ho3, -, b3⟩
  obtain ⟨A3, c3, rfl⟩ : ∃ A c, u3 = .slice A 1 c := ho3.slice_
  have hXB : X < WB.heap.size := (Array.getElem?_eq_some_iff.1 hxB).1
  have hx3 := (b3.block X hXB).trans hxB
  have hb3 := same_of hbB b3
  obtain ⟨⟨y0, y1⟩, f0, f1⟩ := row2 hx3
  have hx3' := cells_set (cells_set hx3 0 (.int .i64 64)) 1 (.slice A3 1 c3)
  have hb3' := same_set (b := X) (k := 1) (u := .slice A3 1 c3) (same_set (b := X) (k := 0) (u := .int .i64 64) hb3 hX) hX
  have ho3' := (ho3.set (p := ⟨X, 0, none⟩) hXB (.int .i64 64)).set (p := ⟨X, 1, none⟩) hXB (.slice A3 1 c3)
  have HH3 := Lib.hid (And.intro hx3' (And.intro hb3' ho3'))
  clear hxB hbB hsB b3 hx3 hb3 hx3' hb3' ho3 ho3' HC3 hXB
  go_wp2_with fail
  obtain ⟨WC, hWC⟩ : ∃ W, W = (w3.setCell ⟨X, 0, none⟩ (.int .i64 64)).setCell ⟨X, 1, none⟩ (.slice A3 1 c3) := ⟨_, rfl⟩
  have hxC : WC.heap[X]? = some (.cells #[.int .i64 64, .slice A3 1 c3] 25 (0, 0)) := by rw [hWC]; exact HH3.out.1
  have hbC : Below w.heap.size w WC := by rw [hWC]; exact HH3.out.2.1
  have hIC : IsBits WC.heap.size WC (.agg #[.int .i64 64, .slice A3 1 c3]) 64 [0x8000000000000001] := OwnsW.bits (base := WB.heap.size) (by rw [hWC]; exact HH3.out.2.2) range_64
  rw [← hWC]
  clear hWC HH3 y0 y1 f0 f1
  have C4 := fun W (h : Below WC.heap.size WC W) => pHex_any WC.heap.size _ 64 [0x8000000000000001] W (HE.out _ (same_of hbC h)) (hIC.keep h) h.size
  have C5 := fun W (h : Below WC.heap.size WC W) => pCount_any WC.heap.size _ 64 [0x8000000000000001] W (HE.out _ (same_of hbC h)) (hIC.keep h) h.size
  have C6 := fun W (h : Below WC.heap.size WC W) => pHas_any WC.heap.size _ 64 [0x8000000000000001] 63 W (HE.out _ (same_of hbC h)) (hIC.keep h) h.size
  have C7 := fun W (h : Below WC.heap.size WC W) => pHas_any WC.heap.size _ 64 [0x8000000000000001] 1 W (HE.out _ (same_of hbC h)) (hIC.keep h) h.size
  simp only [hex_1] at C4
  simp only [count_2] at C5
  simp only [has_63] at C6
  simp only [has_1] at C7
  have HC4 := Lib.hid C4
  have HC5 := Lib.hid C5
  have HC6 := Lib.hid C6
  have HC7 := Lib.hid C7
  have HBC := Lib.hid hbC
  have HX := Lib.hid (fun W (h : Below WC.heap.size WC W) => row2 ((h.block X (Array.getElem?_eq_some_iff.1 hxC).1).trans hxC))
  clear C4 C5 C6 C7 hIC hbC hxC
  refine (HC4.out _ (Below.refl _ _)).mono ?_
  rintro e w4 ⟨rfl, b4⟩
  obtain ⟨⟨y0, y1⟩, -⟩ := HX.out _ b4
  go_wp2_with fail
  refine (HC5.out _ b4).mono ?_
  rintro e w5 ⟨rfl, b5⟩
  have b5' := same_of b4 b5
  clear y0 y1 b4 b5
  obtain ⟨⟨y0, y1⟩, -⟩ := HX.out _ b5'
  go_wp2_with fail
  refine (HC6.out _ b5').mono ?_
  rintro e w6 ⟨rfl, b6⟩
  have b6' := same_of b5' b6
  clear y0 y1 b5' b6
  obtain ⟨⟨y0, y1⟩, -⟩ := HX.out _ b6'
  go_wp2_with fail
  refine (HC7.out _ b6').mono ?_
  rintro e w7 ⟨rfl, b7⟩
  have b7' := same_of b6' b7
  go_wp2
  go_ret
  exact ⟨rfl, same_of HBC.out b7'⟩
end Go.Proofs.Ytfcnodiepdnegaa
