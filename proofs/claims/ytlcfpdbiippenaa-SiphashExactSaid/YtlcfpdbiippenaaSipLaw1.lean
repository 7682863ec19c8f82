/- awake: the published examples. -/
import Derived.Test.YtlcfpdbiippenaaSipProg
namespace Go.Proofs.Ytlcfpdbiippenaa
open Go.RowKit
set_option linter.unusedVariables false
set_option maxRecDepth 100000

theorem step_call_w {P : Program} {ops : Array Oper} {o : Oper} {a : Act} {w : World} {K : Act → World → Prop} {Q : Exit → Act → World → Prop} {E : Prop} (hw : Region.wanted o (yielded ops a.tmps) = true) (f : FuncId) (argv : Array Value) (hx : (execOp a.eval o).run P w = .ok (.enter f argv) w) (v : Value) (R : World → Prop) (hc : Calls P f argv w fun e w' => e = .returned v ∧ R w') (hK : ∀ w', R w' → K (a.put o.dst v) w') : if Region.wanted o (yielded ops a.tmps) = true then Oper.wp P o a w K Q else E := by
  rw [if_pos hw]
  unfold Oper.wp
  rw [hx, Oper.upon_enter]
  refine hc.mono ?_
  rintro e w' ⟨rfl, hr⟩
  exact hK w' hr

def exL : List UInt8 := [0, 1, 2, 3, 4, 5, 6, 7, 8, 9, 10, 11, 12, 13, 14]
theorem ex_a : n64 0x0706050403020100 = 506097522914230528 := by decide +kernel
theorem ex_b : n64 0x0f0e0d0c0b0a0908 = 1084818905618843912 := by decide +kernel
theorem ex_c : n64 0xa129ca6149be45e5 = 11613035633349379557 := by decide +kernel
theorem ex_d : n64 0x726fdb47dd0e0e31 = 8246050544436514353 := by decide +kernel
theorem pt_none : ptV 0x0706050403020100 0x0f0e0d0c0b0a0908 [] = 0x726fdb47dd0e0e31 := SM.sum_none

theorem sum_ex (B : Nat) (v : Value) (W : World) (hE : PEnv W) (hv : IsBs B W v exL) (hB : B ≤ W.heap.size) :
    Calls Try.prog 13 #[.agg #[.int .u64 506097522914230528, .int .u64 1084818905618843912], v] W fun e w' => e = .returned (.int .u64 11613035633349379557) ∧ Below W.heap.size W w' := by
  have := Sum_any B 0x0706050403020100 0x0f0e0d0c0b0a0908 v exL W hE hv hB (by decide)
  rw [show SM.sum 0x0706050403020100 0x0f0e0d0c0b0a0908 exL = 0xa129ca6149be45e5 from SM.sum_some] at this
  unfold keyV at this
  rw [ex_a, ex_b, ex_c] at this
  exact this
theorem sum_ex0 (W : World) (hE : PEnv W) :
    Calls Try.prog 13 #[.agg #[.int .u64 506097522914230528, .int .u64 1084818905618843912], .slice none 0 0] W fun e w' => e = .returned (.int .u64 8246050544436514353) ∧ Below W.heap.size W w' := by
  have := Sum_any W.heap.size 0x0706050403020100 0x0f0e0d0c0b0a0908 (.slice none 0 0) [] W hE ⟨none, 0, rfl, Nat.le_refl _, Nat.zero_le _, .inl rfl⟩ (Nat.le_refl _) (by decide)
  rw [SM.sum_none] at this
  unfold keyV at this
  rw [ex_a, ex_b, ex_d] at this
  exact this
theorem parts_ex0 (W : World) (hE : PEnv W) :
    Calls Try.prog 15 #[.agg #[.int .u64 506097522914230528, .int .u64 1084818905618843912], .slice none 0 0] W fun e w' => e = .returned (.int .u64 8246050544436514353) ∧ Below W.heap.size W w' := by
  have := Parts_any W.heap.size 0x0706050403020100 0x0f0e0d0c0b0a0908 (.slice none 0 0) [] W hE ⟨none, 0, rfl, Nat.le_refl _, Nat.zero_le _, .inl rfl⟩ (Nat.le_refl _) (by decide) (by simp)
  rw [pt_none] at this
  unfold keyV at this
  rw [ex_a, ex_b, ex_d] at this
  exact this
theorem bs_new (w : World) (l : List UInt8) (h : l.length ≤ maxLen) : IsBs (w.heap.size + 1) (w.alloc (.cells (l.map fun x => Value.int .u8 (x.toNat : Int)).toArray 5)) (.slice (some ⟨w.heap.size, 0, none⟩) l.length l.length) l :=
  ⟨_, _, rfl, Nat.le_refl _, h, .inr ⟨_, _, rfl, Nat.lt_succ_self _, fun j x hx => by
    rw [cell_of_row _ _ _ _ _ _ (heap_alloc_new w _)]
    simp [hx]⟩⟩

set_option maxHeartbeats 2000000 in
theorem awake8_any (w : World) (hE : PEnv w) : Calls Try.prog 8 #[] w fun e w' => e = .returned (.bool true) ∧ Below w.heap.size w w' := by
  go_enter Try.func8, Try.ntmps8
  go_wp2_with fail
  obtain ⟨W0, hW0⟩ : ∃ W, W = (w.alloc (.cells #[.int .u64 506097522914230528, .int .u64 1084818905618843912] 25)).alloc (.cells (exL.map fun x => Value.int .u8 (x.toNat : Int)).toArray 5) := ⟨_, rfl⟩
  have hs0 : W0.heap.size = w.heap.size + 2 := by rw [hW0]; simp
  have k0 : W0.cell? ⟨w.heap.size, 0, none⟩ = some (.int .u64 506097522914230528) := by rw [hW0]; exact cell_one8 (new_cellB w _ _ 0 _ rfl)
  have k1 : W0.cell? ⟨w.heap.size, 1, none⟩ = some (.int .u64 1084818905618843912) := by rw [hW0]; exact cell_one8 (new_cellB w _ _ 1 _ rfl)
  have hBS : IsBs W0.heap.size W0 (.slice (some ⟨w.heap.size + 1, 0, none⟩) 15 15) exL := by
    have := bs_new (w.alloc (.cells #[.int .u64 506097522914230528, .int .u64 1084818905618843912] 25)) exL (by decide)
    rw [← hW0, World.size_alloc, show w.heap.size + 1 + 1 = W0.heap.size by rw [hs0]] at this
    exact this
  have hb0 : Hid (Below w.heap.size w W0) := by rw [hW0]; exact two_new8 w _ _
  have HP := Lib.hid (fun W (h : Below W0.heap.size W0 W) => (hE.below hb0.out (Nat.le_refl _)).below h (Nat.le_refl _))
  have HKEY := Lib.hid (fun W (h : Below W0.heap.size W0 W) => And.intro ((h.cell (p := ⟨w.heap.size, 0, none⟩) (by show w.heap.size < W0.heap.size; omega)).trans k0) ((h.cell (p := ⟨w.heap.size, 1, none⟩) (by show w.heap.size < W0.heap.size; omega)).trans k1))
  have HA := Lib.hid (fun W (h : Below W0.heap.size W0 W) => sum_ex _ _ W (HP.out W h) (hBS.keep h) h.size)
  have HS := Lib.hid (fun W (h : Below W0.heap.size W0 W) => sum_ex0 W (HP.out W h))
  have HT := Lib.hid (fun W (h : Below W0.heap.size W0 W) => parts_ex0 W (HP.out W h))
  simp only [exL, List.map_cons, List.map_nil] at hW0
  have hW1 : W0 = (w.alloc (.cells #[.int .u64 506097522914230528, .int .u64 1084818905618843912] 25)).alloc (.cells #[.int .u8 0, .int .u8 1, .int .u8 2, .int .u8 3, .int .u8 4, .int .u8 5, .int .u8 6, .int .u8 7, .int .u8 8, .int .u8 9, .int .u8 10, .int .u8 11, .int .u8 12, .int .u8 13, .int .u8 14] 5) := hW0
  rw [← hW1]
  clear hW0 hW1 hs0 hBS hE HP
  have hr0 : Below W0.heap.size W0 W0.drew := (Below.refl _ W0).drew
  go_region_law (first
    | (refine step_call_w ?gw _ _ ?gx _ _ (HA.out _ ?gb) ?_
       case gb => assumption
       case gx => (go_simp; done)
       case gw => (first | rfl | (go_simp; done))
       intro w1 b1
       have hr1 : Below W0.heap.size W0 w1 := der_same (by assumption) b1
       obtain ⟨y0, y1⟩ := HKEY.out w1 hr1)
    | (refine step_call_w ?gw _ _ ?gx _ _ (HS.out _ ?gb) ?_
       case gb => assumption
       case gx => (go_simp; done)
       case gw => (first | rfl | (go_simp; done))
       intro w1 b1
       have hr1 : Below W0.heap.size W0 w1 := der_same (by assumption) b1
       obtain ⟨y0, y1⟩ := HKEY.out w1 hr1)
    | (refine step_call_w ?gw _ _ ?gx _ _ (HT.out _ ?gb) ?_
       case gb => assumption
       case gx => (go_simp; done)
       case gw => (first | rfl | (go_simp; done))
       intro w1 b1
       have hr1 : Below W0.heap.size W0 w1 := der_same (by assumption) b1
       obtain ⟨y0, y1⟩ := HKEY.out w1 hr1))
  all_goals
    clear HA HS HT HKEY
    go_wp2
    go_ret
    exact ⟨rfl, hb0.out.trans (Below.mono (by assumption) hb0.out.size)⟩
end Go.Proofs.Ytlcfpdbiippenaa
