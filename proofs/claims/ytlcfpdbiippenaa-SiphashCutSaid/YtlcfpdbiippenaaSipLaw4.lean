/- The walk of SiphashCut. -/
import Derived.Test.YtlcfpdbiippenaaSipRows
import Derived.Deep.RegionHeld3
namespace Go.Proofs.Ytlcfpdbiippenaa
open Go.RowKit
set_option linter.unusedVariables false
set_option maxRecDepth 100000

theorem below_none2 {w w' : World} {B : Nat} (h : w.grownBy w' none) (hB : B ≤ w.heap.size) : Below B w w' := ⟨h.os, h.tape, h.output, h.size, fun k hk => h.block k (by omega) (fun e => by cases e)⟩

theorem der_keep {W u : World} (hb : Below W.heap.size W u) : ∀ p v, W.cell? p = some v → u.cell? p = some v := fun p v h => (hb.cell (p := p) (World.block_lt_of_cell? W _ h)).trans h

set_option maxHeartbeats 4000000 in
theorem SiphashCut_walk (kA kB : UInt64) (more : UInt8) (w : World) (hE : PEnv w) :
    Calls Try.prog 6 #[keyV kA kB, .int .u8 (more.toNat : Int)] w fun e w' => e = .returned (.bool true) ∧ Below w.heap.size w w' := by
  have HE := Lib.hid hE
  clear hE
  unfold keyV
  go_enter Try.func6, Try.ntmps6
  go_wp2_with fail
  have HK0 := Lib.hid (heap_alloc_new w (.cells #[.int .u64 (n64 kA), .int .u64 (n64 kB)] 25))
  obtain ⟨W0, hW0⟩ : ∃ W, W = w.alloc (.cells #[.int .u64 (n64 kA), .int .u64 (n64 kB)] 25) := ⟨_, rfl⟩
  have hk0 : W0.heap[w.heap.size]? = some (.cells #[.int .u64 (n64 kA), .int .u64 (n64 kB)] 25 (0, 0)) := by rw [hW0]; exact heap_alloc_new w _
  have hs0 : W0.heap.size = w.heap.size + 1 := by rw [hW0]; simp
  have b0 : Below w.heap.size w W0 := by rw [hW0]; exact (Below.refl _ w).alloc (Nat.le_refl _) _
  rw [← hW0]
  clear hW0 HK0
  refine (awake8_any W0 (HE.out.below b0 (Nat.le_refl _))).mono ?_
  rintro e w1 ⟨rfl, b1⟩
  have hmore := more.toNat_lt
  go_wp2
  have b1' := der_same b0 b1
  have hw1 := b1.size
  obtain ⟨i0, hi0, hz0, hz1, hz2⟩ := info_parts byteInfo
  obtain ⟨w2, hrun, hmade⟩ := run_make_full (P := Try.prog) w1 w1.heap.size 26 5 i0 (.int .u8 0) 1 Try.underlying26 hi0 hz0 hz1 .i64 .i64 (65535 + more.toNat) (by rw [hz2]; omega) (by unfold maxLen; omega) (Nat.le_refl _)
  have hN5 := Lib.hid (show 65535 ≤ 65535 + more.toNat by omega)
  have hN6 := Lib.hid (show 65535 + more.toNat ≤ 65790 by omega)
  rw [show 65535 + (more.toNat : Int) = (((65535 + more.toNat : Nat) : Int)) by omega]
  generalize 65535 + more.toNat = N at *
  rw [hrun]
  clear hrun
  obtain ⟨hmade, hgr⟩ := hmade
  have b2 : Below w.heap.size w w2 := b1'.trans (below_none2 hgr (by omega))
  have hmade' : w2.ownsRow w1.heap.size 5 1 (.slice (some ⟨w1.heap.size, 0, none⟩) N N) N ((List.replicate N (0 : UInt8)).map fun b => Value.int .u8 (b.toNat : Int)) := by
    rw [show (madeCells (Value.int IntKind.u8 0).cells (N * 1)).toList = (List.replicate N (0 : UInt8)).map (fun b => Value.int .u8 (b.toNat : Int)) by
      rw [Nat.mul_one, show (Value.int IntKind.u8 0).cells = #[Value.int IntKind.u8 0] from rfl, toList_madeCells_one, List.map_replicate]; rfl] at hmade
    exact hmade
  have hk2 : w2.heap[w.heap.size]? = some (.cells #[.int .u64 (n64 kA), .int .u64 (n64 kB)] 25 (0, 0)) := (hgr.block w.heap.size (by omega) (fun e => by cases e)).trans ((b1.block w.heap.size (by omega)).trans hk0)
  have hs2 := hgr.size
  clear hmade hgr hk0 b0 b1 b1' hi0 hz0 hz1 hz2 hmore
  go_wp2
  have HN5 := hN5.out
  have HN6 := hN6.out
  have HB2 := Lib.hid b2
  have HK2 := Lib.hid hk2
  go_loopw [16] (fun iv wr => ∃ (k : Nat) (l : List UInt8), iv = .int .i64 k ∧ k ≤ N ∧ l.length = N ∧ wr.ownsRow w1.heap.size 5 1 (.slice (some ⟨w1.heap.size, 0, none⟩) N N) N (l.map fun b => Value.int .u8 (b.toNat : Int)) ∧ Below w1.heap.size w2 wr) (fun iv _ => N - (intOf iv).toNat)
  case atStart => exact ⟨0, _, by go_num, Nat.zero_le _, List.length_replicate, hmade', Below.refl _ _⟩
  case round =>
    obtain ⟨k, l, rfl, hk, hl, hown, hb⟩ := hrel
    by_cases hlt : k < N
    · have i1 : (k : Int) < (N : Int) := by omega
      have x0 : wr.cell? ⟨w1.heap.size, k, none⟩ = some (.int .u8 (l[k].toNat : Int)) := (hown.cellAt k (by omega)).trans (by rw [List.getElem?_map, List.getElem?_eq_getElem (by omega)]; rfl)
      have f0 := hown.frozenAt k
      have HOWN := Lib.hid hown
      have HB := Lib.hid hb
      clear hown hb
      go_wp2
      have hx7 : ((UInt8.ofNat (k * 7 % 256)).toNat : Int) = (k : Int) * 7 % 256 := by
        rw [UInt8.toNat_ofNat']
        omega
      have hrow := (HOWN.out.stored k (.int .u8 ((k : Int) * 7 % 256))).1
      rw [← hx7, ← List.map_set] at hrow
      rw [← hx7]
      exact ⟨⟨k + 1, l.set k (UInt8.ofNat (k * 7 % 256)), by go_num, by omega, by simp [hl], by simpa using hrow, HB.out.setCell (p := ⟨w1.heap.size, k, none⟩) (Nat.le_refl _) _⟩, by simp [intOf]; omega⟩
    · have i1 : ¬ (k : Int) < (N : Int) := by omega
      have hown' : OwnsB w1.heap.size wr (.slice (some ⟨w1.heap.size, 0, none⟩) N N) l := by
        unfold OwnsB
        rw [hl]
        exact hown
      have hconv := convOwn hown'
      go_wp2
      have hT : (bs l).size = N := by rw [← size_list, list_bs, hl]
      clear hconv hown' hown hl
      generalize bs l = T at *
      have hbw : Below w.heap.size w wr := HB2.out.trans (hb.mono (by omega))
      have hkr := (hb.block w.heap.size (by omega)).trans HK2.out
      have k0 : wr.cell? ⟨w.heap.size, 0, none⟩ = some (.int .u64 (n64 kA)) := by rw [cell_of_row _ _ _ _ _ _ hkr]; rfl
      have k1 : wr.cell? ⟨w.heap.size, 1, none⟩ = some (.int .u64 (n64 kB)) := by rw [cell_of_row _ _ _ _ _ _ hkr]; rfl
      have hYr : w.heap.size < wr.heap.size := World.block_lt_of_cell? _ _ k0
      have hY := Lib.hid hYr
      have HC := Lib.hid (fun W (h : Below wr.heap.size wr W) => show (W.cell? ⟨w.heap.size, 0, none⟩ = some (.int .u64 (n64 kA)) ∧ W.cell? ⟨w.heap.size, 1, none⟩ = some (.int .u64 (n64 kB))) from ⟨(h.cell (p := ⟨w.heap.size, 0, none⟩) hYr).trans k0, (h.cell (p := ⟨w.heap.size, 1, none⟩) hYr).trans k1⟩)
      have HB7 := Lib.hid hbw
      have hcut : ptV kA kB [T.extract 0 65535] = ptV kA kB [T] := by
        unfold ptV partsL
        rw [List.flatMap_singleton, List.flatMap_singleton]
        by_cases hb' : 65535 < T.size
        · rw [part_cut T hb']
        · have : T.extract 0 65535 = T := by
            apply ba_ext
            have e : (T.extract 0 65535).data.toList = T.data.toList.take 65535 := by rw [Lib.extract_data]; simp
            rw [e, List.take_of_length_le (by rw [size_list]; omega)]
          rw [this]
      have HPT := Lib.hid (fun W g (h : Below wr.heap.size wr W) (h0 : W.cell? ⟨g, 0, none⟩ = some (.string T)) => Parts_any (g + 1) kA kB _ [T] W (HE.out.below (der_same hbw h) (Nat.le_refl _)) (texts_one h0) (Nat.succ_le_of_lt (World.block_lt_of_cell? W _ h0)) (by simp) (fun x hx => by rw [List.mem_singleton.1 hx]; unfold maxLen; omega))
      have HPX := Lib.hid (fun W g (h : Below wr.heap.size wr W) (h0 : W.cell? ⟨g, 0, none⟩ = some (.string (T.extract 0 65535))) => Parts_any (g + 1) kA kB _ [T.extract 0 65535] W (HE.out.below (der_same hbw h) (Nat.le_refl _)) (texts_one h0) (Nat.succ_le_of_lt (World.block_lt_of_cell? W _ h0)) (by simp) (fun x hx => by
        have : (T.extract 0 65535).size = min 65535 T.size := by simp
        rw [List.mem_singleton.1 hx]
        unfold maxLen
        omega))
      have HRT := Lib.hid (fun W g (h0 : W.cell? ⟨g, 0, none⟩ = some (.string T)) => rParts_any (g + 1) kA kB _ [T] W (texts_one h0) (Nat.succ_le_of_lt (World.block_lt_of_cell? W _ h0)) (by simp) (fun x hx => by rw [List.mem_singleton.1 hx]; unfold maxLen; omega))
      rw [hcut] at HPX
      generalize ptV kA kB [T] = P at *
      unfold keyV at *
      have hcur : Below wr.heap.size wr wr := Below.refl _ wr
      have hN5' : (65535 : Int) ≤ (T.size : Int) := by omega
      clear hkr hbw hcut b2 HB2 HK2 hk2 hb hmade' hN5 hN6 hk i1 HN5 HN6 hT
      go_wp2_with fail
      go_region_held3 (fun w' => w'.cell? ⟨w.heap.size, 0, none⟩ = some (.int .u64 (n64 kA)) ∧ w'.cell? ⟨w.heap.size, 1, none⟩ = some (.int .u64 (n64 kB)))
        (first | go_keep | exact hst)
        (first
          | (go_at_call 15
             refine (HPT.out _ _ ?gb ?gc).mono ?_
             case gb => first | exact hcur | exact der_al hcur | exact der_al (der_al hcur) | exact (der_al hcur).drew | exact (der_al (der_al hcur)).drew
             case gc => first | exact new_cellB _ _ _ 0 _ rfl | exact cell_one8 (new_cellB _ _ _ 0 _ rfl) | exact two_cell8 _ _ _ _ 0 _ rfl | exact cell_drew8 (new_cellB _ _ _ 0 _ rfl) | exact cell_drew8 (cell_one8 (new_cellB _ _ _ 0 _ rfl)) | exact cell_drew8 (two_cell8 _ _ _ _ 0 _ rfl) | exact hkeep _ _ (new_cellB _ _ _ 0 _ rfl) | exact hkeep _ _ (cell_one8 (new_cellB _ _ _ 0 _ rfl)) | exact hkeep _ _ (two_cell8 _ _ _ _ 0 _ rfl) | exact hkeep _ _ (cell_drew8 (new_cellB _ _ _ 0 _ rfl)) | exact hkeep _ _ (cell_drew8 (cell_one8 (new_cellB _ _ _ 0 _ rfl))) | exact hkeep _ _ (cell_drew8 (two_cell8 _ _ _ _ 0 _ rfl))
             rintro e u ⟨rfl, bu⟩
             have hcur : Below wr.heap.size wr u := der_same (by first | exact hcur | exact der_al hcur | exact der_al (der_al hcur) | exact (der_al hcur).drew | exact (der_al (der_al hcur)).drew) bu
             have hkeep := der_keep bu
             have hst := HC.out u hcur)
          | (go_at_call 15
             refine (HPX.out _ _ ?gb ?gc).mono ?_
             case gb => first | exact hcur | exact der_al hcur | exact der_al (der_al hcur) | exact (der_al hcur).drew | exact (der_al (der_al hcur)).drew
             case gc => first | exact new_cellB _ _ _ 0 _ rfl | exact cell_one8 (new_cellB _ _ _ 0 _ rfl) | exact two_cell8 _ _ _ _ 0 _ rfl | exact cell_drew8 (new_cellB _ _ _ 0 _ rfl) | exact cell_drew8 (cell_one8 (new_cellB _ _ _ 0 _ rfl)) | exact cell_drew8 (two_cell8 _ _ _ _ 0 _ rfl) | exact hkeep _ _ (new_cellB _ _ _ 0 _ rfl) | exact hkeep _ _ (cell_one8 (new_cellB _ _ _ 0 _ rfl)) | exact hkeep _ _ (two_cell8 _ _ _ _ 0 _ rfl) | exact hkeep _ _ (cell_drew8 (new_cellB _ _ _ 0 _ rfl)) | exact hkeep _ _ (cell_drew8 (cell_one8 (new_cellB _ _ _ 0 _ rfl))) | exact hkeep _ _ (cell_drew8 (two_cell8 _ _ _ _ 0 _ rfl))
             rintro e u ⟨rfl, bu⟩
             have hcur : Below wr.heap.size wr u := der_same (by first | exact hcur | exact der_al hcur | exact der_al (der_al hcur) | exact (der_al hcur).drew | exact (der_al (der_al hcur)).drew) bu
             have hkeep := der_keep bu
             have hst := HC.out u hcur)
          | (go_at_call 16
             refine (HRT.out _ _ ?gc).mono ?_
             skip
             case gc => first | exact new_cellB _ _ _ 0 _ rfl | exact cell_one8 (new_cellB _ _ _ 0 _ rfl) | exact two_cell8 _ _ _ _ 0 _ rfl | exact cell_drew8 (new_cellB _ _ _ 0 _ rfl) | exact cell_drew8 (cell_one8 (new_cellB _ _ _ 0 _ rfl)) | exact cell_drew8 (two_cell8 _ _ _ _ 0 _ rfl) | exact hkeep _ _ (new_cellB _ _ _ 0 _ rfl) | exact hkeep _ _ (cell_one8 (new_cellB _ _ _ 0 _ rfl)) | exact hkeep _ _ (two_cell8 _ _ _ _ 0 _ rfl) | exact hkeep _ _ (cell_drew8 (new_cellB _ _ _ 0 _ rfl)) | exact hkeep _ _ (cell_drew8 (cell_one8 (new_cellB _ _ _ 0 _ rfl))) | exact hkeep _ _ (cell_drew8 (two_cell8 _ _ _ _ 0 _ rfl))
             rintro e u ⟨rfl, bu⟩
             have hcur : Below wr.heap.size wr u := der_same (by first | exact hcur | exact der_al hcur | exact der_al (der_al hcur) | exact (der_al hcur).drew | exact (der_al (der_al hcur)).drew) bu
             have hkeep := der_keep bu
             have hst := HC.out u hcur))
      all_goals
        have HR := Lib.hid (der_same HB7.out hcur)
        clear HC HPT HPX HRT HB7 hst hkeep k0 k1
        go_wp2
        go_ret
        exact ⟨rfl, HR.out⟩
end Go.Proofs.Ytlcfpdbiippenaa
