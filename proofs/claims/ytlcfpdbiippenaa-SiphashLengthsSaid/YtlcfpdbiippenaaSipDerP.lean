/- The walk of the program's Derive. -/
import Derived.Test.YtlcfpdbiippenaaSipPartsP
import Derived.Deep.RegionLaw
import Derived.Deep.RegionHeld3
namespace Go.Proofs.Ytlcfpdbiippenaa
open Go.RowKit
set_option linter.unusedVariables false
set_option maxRecDepth 100000

set_option maxHeartbeats 4000000 in
theorem sDerive_any (kA kB : UInt64) (label : ByteArray) (w : World) (hl : label.size ≤ maxLen) :
    Calls Try.prog 17 #[keyV kA kB, .string label] w fun e w' => e = .returned (derV kA kB label) ∧ Below w.heap.size w w' := by
  have H1 := Lib.hid (fun W g (h0 : W.cell? ⟨g, 0, none⟩ = some (.string label)) (h1 : W.cell? ⟨g, 1, none⟩ = some (.string ⟨#[97]⟩)) => sParts_any (g + 1) kA kB _ [label, ⟨#[97]⟩] W (texts_two h0 h1) (Nat.succ_le_of_lt (World.block_lt_of_cell? W _ h0)) (by simp) (pair_len hl (by decide)))
  have H2 := Lib.hid (fun W g (h0 : W.cell? ⟨g, 0, none⟩ = some (.string label)) (h1 : W.cell? ⟨g, 1, none⟩ = some (.string ⟨#[98]⟩)) => sParts_any (g + 1) kA kB _ [label, ⟨#[98]⟩] W (texts_two h0 h1) (Nat.succ_le_of_lt (World.block_lt_of_cell? W _ h0)) (by simp) (pair_len hl (by decide)))
  unfold derV
  generalize ptV kA kB [label, ⟨#[97]⟩] = P1 at *
  generalize ptV kA kB [label, ⟨#[98]⟩] = P2 at *
  unfold keyV at *
  go_enter Try.func17, Try.ntmps17
  go_wp2_with fail
  have KC := Lib.hid (new_cellB (w.alloc (.cells #[.int .u64 (n64 kA), .int .u64 (n64 kB)] 25)) #[.int .u64 0, .int .u64 0] 25)
  obtain ⟨W0, hW0⟩ : ∃ W, W = (w.alloc (.cells #[.int .u64 (n64 kA), .int .u64 (n64 kB)] 25)).alloc (.cells #[.int .u64 0, .int .u64 0] 25) := ⟨_, rfl⟩
  have hs0 : W0.heap.size = w.heap.size + 2 := by rw [hW0]; simp
  have k0 : W0.cell? ⟨w.heap.size, 0, none⟩ = some (.int .u64 (n64 kA)) := by rw [hW0]; exact cell_one8 (new_cellB w _ _ 0 _ rfl)
  have k1 : W0.cell? ⟨w.heap.size, 1, none⟩ = some (.int .u64 (n64 kB)) := by rw [hW0]; exact cell_one8 (new_cellB w _ _ 1 _ rfl)
  have hres : Hid (W0.heap[w.heap.size + 1]? = some (.cells #[.int .u64 0, .int .u64 0] 25 (0, 0))) := by rw [hW0]; exact heap_two8 w _ _ _
  have hb0 : Hid (Below w.heap.size w W0) := by rw [hW0]; exact two_new8 w _ _
  have HKEY := Lib.hid (fun W (h : Below W0.heap.size W0 W) => And.intro ((h.cell (p := ⟨w.heap.size, 0, none⟩) (by show w.heap.size < W0.heap.size; omega)).trans k0) ((h.cell (p := ⟨w.heap.size, 1, none⟩) (by show w.heap.size < W0.heap.size; omega)).trans k1))
  rw [← hW0]
  clear hW0 KC
  have HC := HKEY
  have hs1 := Lib.hid (show w.heap.size + 1 < W0.heap.size by omega)
  clear hs0
  have hcur : Below W0.heap.size W0 W0 := Below.refl _ _
  go_region_held3 (fun w' => w'.cell? ⟨w.heap.size, 0, none⟩ = some (.int .u64 (n64 kA)) ∧ w'.cell? ⟨w.heap.size, 1, none⟩ = some (.int .u64 (n64 kB)))
    (first | go_keep | exact hst)
    (first
          | (have hstage := st1
             go_at_call 15
             refine (H2.out _ _ ?c0 ?c1).mono ?_
             case c0 => first | exact new_cellB _ _ _ 0 _ rfl | exact cell_one8 (new_cellB _ _ _ 0 _ rfl) | exact two_cell8 _ _ _ _ 0 _ rfl | exact cell_drew8 (new_cellB _ _ _ 0 _ rfl) | exact cell_drew8 (cell_one8 (new_cellB _ _ _ 0 _ rfl)) | exact cell_drew8 (two_cell8 _ _ _ _ 0 _ rfl) | exact hkeep _ _ (new_cellB _ _ _ 0 _ rfl) | exact hkeep _ _ (cell_one8 (new_cellB _ _ _ 0 _ rfl)) | exact hkeep _ _ (two_cell8 _ _ _ _ 0 _ rfl) | exact hkeep _ _ (cell_drew8 (new_cellB _ _ _ 0 _ rfl)) | exact hkeep _ _ (cell_drew8 (cell_one8 (new_cellB _ _ _ 0 _ rfl))) | exact hkeep _ _ (cell_drew8 (two_cell8 _ _ _ _ 0 _ rfl))
             case c1 => first | exact new_cellB _ _ _ 1 _ rfl | exact cell_one8 (new_cellB _ _ _ 1 _ rfl) | exact two_cell8 _ _ _ _ 1 _ rfl | exact cell_drew8 (new_cellB _ _ _ 1 _ rfl) | exact cell_drew8 (cell_one8 (new_cellB _ _ _ 1 _ rfl)) | exact cell_drew8 (two_cell8 _ _ _ _ 1 _ rfl) | exact hkeep _ _ (new_cellB _ _ _ 1 _ rfl) | exact hkeep _ _ (cell_one8 (new_cellB _ _ _ 1 _ rfl)) | exact hkeep _ _ (two_cell8 _ _ _ _ 1 _ rfl) | exact hkeep _ _ (cell_drew8 (new_cellB _ _ _ 1 _ rfl)) | exact hkeep _ _ (cell_drew8 (cell_one8 (new_cellB _ _ _ 1 _ rfl))) | exact hkeep _ _ (cell_drew8 (two_cell8 _ _ _ _ 1 _ rfl))
             rintro e w2 ⟨rfl, bu⟩
             have hcur : Below W0.heap.size W0 w2 := der_same (by first | exact hcur | exact der_al8 hcur | exact der_al8 (der_al8 hcur) | exact (der_al8 hcur).drew | exact (der_al8 (der_al8 hcur)).drew) bu
             have hkeep := der_keep8 bu
             have hst := HC.out w2 hcur
             have hrb := (hcur.block (w.heap.size + 1) hs1.out).trans hres.out
             have z0 := key_cell hrb 0 (by decide)
             have z1 := key_cell hrb 1 (by decide)
             have f0 := Lib.frozen_of_heap hrb 0
             have f1 := Lib.frozen_of_heap hrb 1
             have hr2 := hcur)
          | (go_at_call 15
             refine (H1.out _ _ ?c0 ?c1).mono ?_
             case c0 => first | exact new_cellB _ _ _ 0 _ rfl | exact cell_one8 (new_cellB _ _ _ 0 _ rfl) | exact two_cell8 _ _ _ _ 0 _ rfl | exact cell_drew8 (new_cellB _ _ _ 0 _ rfl) | exact cell_drew8 (cell_one8 (new_cellB _ _ _ 0 _ rfl)) | exact cell_drew8 (two_cell8 _ _ _ _ 0 _ rfl) | exact hkeep _ _ (new_cellB _ _ _ 0 _ rfl) | exact hkeep _ _ (cell_one8 (new_cellB _ _ _ 0 _ rfl)) | exact hkeep _ _ (two_cell8 _ _ _ _ 0 _ rfl) | exact hkeep _ _ (cell_drew8 (new_cellB _ _ _ 0 _ rfl)) | exact hkeep _ _ (cell_drew8 (cell_one8 (new_cellB _ _ _ 0 _ rfl))) | exact hkeep _ _ (cell_drew8 (two_cell8 _ _ _ _ 0 _ rfl))
             case c1 => first | exact new_cellB _ _ _ 1 _ rfl | exact cell_one8 (new_cellB _ _ _ 1 _ rfl) | exact two_cell8 _ _ _ _ 1 _ rfl | exact cell_drew8 (new_cellB _ _ _ 1 _ rfl) | exact cell_drew8 (cell_one8 (new_cellB _ _ _ 1 _ rfl)) | exact cell_drew8 (two_cell8 _ _ _ _ 1 _ rfl) | exact hkeep _ _ (new_cellB _ _ _ 1 _ rfl) | exact hkeep _ _ (cell_one8 (new_cellB _ _ _ 1 _ rfl)) | exact hkeep _ _ (two_cell8 _ _ _ _ 1 _ rfl) | exact hkeep _ _ (cell_drew8 (new_cellB _ _ _ 1 _ rfl)) | exact hkeep _ _ (cell_drew8 (cell_one8 (new_cellB _ _ _ 1 _ rfl))) | exact hkeep _ _ (cell_drew8 (two_cell8 _ _ _ _ 1 _ rfl))
             rintro e w1 ⟨rfl, bu⟩
             have hcur : Below W0.heap.size W0 w1 := der_same (by first | exact hcur | exact der_al8 hcur | exact der_al8 (der_al8 hcur) | exact (der_al8 hcur).drew | exact (der_al8 (der_al8 hcur)).drew) bu
             have hkeep := der_keep8 bu
             have hst := HC.out w1 hcur
             have st1 := trivial)
          | fail)
  all_goals
    have hb3 : Below w.heap.size w ((w2.setCell ⟨w.heap.size + 1, 0, none⟩ (.int .u64 (n64 P1))).setCell ⟨w.heap.size + 1, 1, none⟩ (.int .u64 (n64 P2))) := ((hb0.out.trans (hr2.mono hb0.out.size)).setCell (p := ⟨w.heap.size + 1, 0, none⟩) (Nat.le_succ _) _).setCell (p := ⟨w.heap.size + 1, 1, none⟩) (Nat.le_succ _) _
    clear HC HKEY H1 H2 hst hkeep hrb hs1
    go_wp2_with fail
    exact bodyPost_ret (v := .agg #[.int .u64 (n64 P1), .int .u64 (n64 P2)]) (by simp [results, Try.results17, go_sem, z0, z1]) rfl ⟨rfl, hb3⟩
end Go.Proofs.Ytlcfpdbiippenaa
