/- The walk of the reference's Derive. -/
import Derived.Test.YtlcfpdbiippenaaSipParts
import Derived.Deep.RegionLaw
import Derived.Deep.RegionHeld3
namespace Go.Proofs.Ytlcfpdbiippenaa
open Go.RowKit
set_option linter.unusedVariables false
set_option maxRecDepth 100000

theorem texts_two {W : World} {g : Nat} {a b : ByteArray} (h0 : W.cell? ⟨g, 0, none⟩ = some (.string a)) (h1 : W.cell? ⟨g, 1, none⟩ = some (.string b)) : IsTexts (g + 1) W (.slice (some ⟨g, 0, none⟩) 2 2) [a, b] :=
  ⟨_, 2, rfl, Nat.le_refl _, by decide, .inr ⟨g, 0, rfl, Nat.lt_succ_self _, fun j x hx => by
    match j, hx with
    | 0, hx => simp at hx; subst hx; exact h0
    | 1, hx => simp at hx; subst hx; exact h1⟩⟩
def derV (kA kB : UInt64) (label : ByteArray) : Value := keyV (ptV kA kB [label, ⟨#[97]⟩]) (ptV kA kB [label, ⟨#[98]⟩])
theorem pair_len {a b : ByteArray} (h : a.size ≤ maxLen) (hb : b.size ≤ maxLen) : ∀ x ∈ [a, b], x.size ≤ maxLen := by
  intro x hx
  simp only [List.mem_cons, List.not_mem_nil, or_false] at hx
  rcases hx with rfl | rfl
  · exact h
  · exact hb

theorem cell_one8 {w : World} {u : Obj} {b o : Nat} {v : Value} (h : w.cell? ⟨b, o, none⟩ = some v) : (w.alloc u).cell? ⟨b, o, none⟩ = some v :=
  (World.cell?_of_block (a := ⟨b, o, none⟩) (w := w) (w' := w.alloc u) (Below.heap_alloc w u b (World.block_lt_of_cell? _ _ h))).trans h
theorem step_call_by {P : Program} {ops : Array Oper} {o : Oper} {a : Act} {w : World} {K : Act → World → Prop} {Q : Exit → Act → World → Prop} {E : Prop} (hg : o.guard = none) (f : FuncId) (argv : Array Value) (hx : (execOp a.eval o).run P w = .ok (.enter f argv) w) (v : Value) (R : World → Prop) (hc : Calls P f argv w fun e w' => e = .returned v ∧ R w') (hK : ∀ w', R w' → K (a.put o.dst v) w') : if Region.wanted o (yielded ops a.tmps) = true then Oper.wp P o a w K Q else E := by
  rw [if_pos (show Region.wanted o (yielded ops a.tmps) = true by simp [Region.wanted, hg])]
  unfold Oper.wp
  rw [hx, Oper.upon_enter]
  refine hc.mono ?_
  rintro e w' ⟨rfl, hr⟩
  exact hK w' hr

theorem two_cell8 (w : World) (u : Obj) (cs : Array Value) (T : TypeId) (k : Nat) (v : Value) (h : cs[k]? = some v) : ((w.alloc u).alloc (.cells cs T)).cell? ⟨w.heap.size + 1, k, none⟩ = some v := by
  have := new_cellB (w.alloc u) cs T k v h
  rwa [World.size_alloc] at this
theorem cell_drew8 {W : World} {p : Addr} {v : Value} (h : W.cell? p = some v) : W.drew.cell? p = some v := h
theorem der_drew {W0 W W' : World} {u : Obj} (h : Below W0.heap.size W0 W) (hb : Below (W.alloc u).drew.heap.size (W.alloc u).drew W') : Below W0.heap.size W0 W' :=
  ((h.alloc h.size u).drew).trans (hb.mono (Nat.le_trans h.size (by simp)))
theorem der_below {W0 W W' : World} {u : Obj} (h : Below W0.heap.size W0 W) (hb : Below (W.alloc u).heap.size (W.alloc u) W') : Below W0.heap.size W0 W' :=
  (h.alloc h.size u).trans (hb.mono (Nat.le_trans h.size (by simp)))
theorem der_two {W0 W' : World} {u u' : Obj} (hb : Below ((W0.alloc u).alloc u').drew.heap.size ((W0.alloc u).alloc u').drew W') : Below W0.heap.size W0 W' :=
  ((two_new8 W0 u u').drew).trans (hb.mono (by simp; omega))
theorem der_same {W0 W W' : World} (h : Below W0.heap.size W0 W) (hb : Below W.heap.size W W') : Below W0.heap.size W0 W' :=
  h.trans (hb.mono h.size)
theorem der_kept {W W' : World} {p : Addr} {v : Value} (hb : Below W.drew.heap.size W.drew W') (h : W.cell? p = some v) : W'.cell? p = some v :=
  (hb.cell (p := p) (World.block_lt_of_cell? W _ h)).trans h
theorem der_al8 {W0 W : World} {u : Obj} (h : Below W0.heap.size W0 W) : Below W0.heap.size W0 (W.alloc u) := h.alloc h.size u
theorem der_keep8 {W u : World} (hb : Below W.heap.size W u) : ∀ p v, W.cell? p = some v → u.cell? p = some v := fun p v h => (hb.cell (p := p) (World.block_lt_of_cell? W _ h)).trans h
theorem key_cell {w : World} {b : Nat} {T : TypeId} (h : w.heap[b]? = some (.cells #[.int .u64 0, .int .u64 0] T (0, 0))) (k : Nat) (hk : k < 2) : w.cell? ⟨b, k, none⟩ = some (.int .u64 0) := by
  rw [cell_of_row _ _ _ _ _ _ h]
  match k, hk with
  | 0, _ => rfl
  | 1, _ => rfl

set_option maxHeartbeats 4000000 in
theorem rDerive_any (kA kB : UInt64) (label : ByteArray) (w : World) (hl : label.size ≤ maxLen) :
    Calls Try.prog 18 #[keyV kA kB, .string label] w fun e w' => e = .returned (derV kA kB label) ∧ Below w.heap.size w w' := by
  have H1 := Lib.hid (fun W g (h0 : W.cell? ⟨g, 0, none⟩ = some (.string label)) (h1 : W.cell? ⟨g, 1, none⟩ = some (.string ⟨#[97]⟩)) => rParts_any (g + 1) kA kB _ [label, ⟨#[97]⟩] W (texts_two h0 h1) (Nat.succ_le_of_lt (World.block_lt_of_cell? W _ h0)) (by simp) (pair_len hl (by decide)))
  have H2 := Lib.hid (fun W g (h0 : W.cell? ⟨g, 0, none⟩ = some (.string label)) (h1 : W.cell? ⟨g, 1, none⟩ = some (.string ⟨#[98]⟩)) => rParts_any (g + 1) kA kB _ [label, ⟨#[98]⟩] W (texts_two h0 h1) (Nat.succ_le_of_lt (World.block_lt_of_cell? W _ h0)) (by simp) (pair_len hl (by decide)))
  unfold derV
  generalize ptV kA kB [label, ⟨#[97]⟩] = P1 at *
  generalize ptV kA kB [label, ⟨#[98]⟩] = P2 at *
  unfold keyV at *
  go_enter Try.func18, Try.ntmps18
  go_wp2_with fail
  have KC := Lib.hid (new_cellB (w.alloc (.cells #[.int .u64 (n64 kA), .int .u64 (n64 kB)] 25)) #[.int .u64 0, .int .u64 0] 25)
  obtain ⟨W0, hW0⟩ : ∃ W, W = (w.alloc (.cells #[.int .u64 (n64 kA), .int .u64 (n64 kB)] 25)).alloc (.cells #[.int .u64 0, .int .u64 0] 25) := ⟨_, rfl⟩
  have hs0 : W0.heap.size = w.heap.size + 2 := by rw [hW0]; simp
  have k0 : W0.cell? ⟨w.heap.size, 0, none⟩ = some (.int .u64 (n64 kA)) := by rw [hW0]; exact cell_one8 (new_cellB w _ _ 0 _ rfl)
  have k1 : W0.cell? ⟨w.heap.size, 1, none⟩ = some (.int .u64 (n64 kB)) := by rw [hW0]; exact cell_one8 (new_cellB w _ _ 1 _ rfl)
  have hres : Hid (W0.heap[w.heap.size + 1]? = some (.cells #[.int .u64 0, .int .u64 0] 25 (0, 0))) := by rw [hW0]; exact heap_two8 w _ _ _
  have hb0 : Hid (Below w.heap.size w W0) := by rw [hW0]; exact two_new8 w _ _
  have HKEY := Lib.hid (fun W (h : Below W0.heap.size W0 W) => And.intro ((h.cell (p := ⟨w.heap.size, 0, none⟩) (by show w.heap.size < W0.heap.size; omega)).trans k0) ((h.cell (p := ⟨w.heap.size, 1, none⟩) (by show w.heap.size < W0.heap.size; omega)).trans k1))
  rw [← hW0]
  clear hW0 KC
  have HC := HKEY
  have hs1 := Lib.hid (show w.heap.size + 1 < W0.heap.size by omega)
  clear hs0
  have hcur : Below W0.heap.size W0 W0 := Below.refl _ _
  go_region_held3 (fun w' => w'.cell? ⟨w.heap.size, 0, none⟩ = some (.int .u64 (n64 kA)) ∧ w'.cell? ⟨w.heap.size, 1, none⟩ = some (.int .u64 (n64 kB)))
    (first | go_keep | exact hst)
    (first
          | (have hstage := st1
             go_at_call 16
             refine (H2.out _ _ ?c0 ?c1).mono ?_
             case c0 => first | exact new_cellB _ _ _ 0 _ rfl | exact cell_one8 (new_cellB _ _ _ 0 _ rfl) | exact two_cell8 _ _ _ _ 0 _ rfl | exact cell_drew8 (new_cellB _ _ _ 0 _ rfl) | exact cell_drew8 (cell_one8 (new_cellB _ _ _ 0 _ rfl)) | exact cell_drew8 (two_cell8 _ _ _ _ 0 _ rfl) | exact hkeep _ _ (new_cellB _ _ _ 0 _ rfl) | exact hkeep _ _ (cell_one8 (new_cellB _ _ _ 0 _ rfl)) | exact hkeep _ _ (two_cell8 _ _ _ _ 0 _ rfl) | exact hkeep _ _ (cell_drew8 (new_cellB _ _ _ 0 _ rfl)) | exact hkeep _ _ (cell_drew8 (cell_one8 (new_cellB _ _ _ 0 _ rfl))) | exact hkeep _ _ (cell_drew8 (two_cell8 _ _ _ _ 0 _ rfl))
             case c1 => first | exact new_cellB _ _ _ 1 _ rfl | exact cell_one8 (new_cellB _ _ _ 1 _ rfl) | exact two_cell8 _ _ _ _ 1 _ rfl | exact cell_drew8 (new_cellB _ _ _ 1 _ rfl) | exact cell_drew8 (cell_one8 (new_cellB _ _ _ 1 _ rfl)) | exact cell_drew8 (two_cell8 _ _ _ _ 1 _ rfl) | exact hkeep _ _ (new_cellB _ _ _ 1 _ rfl) | exact hkeep _ _ (cell_one8 (new_cellB _ _ _ 1 _ rfl)) | exact hkeep _ _ (two_cell8 _ _ _ _ 1 _ rfl) | exact hkeep _ _ (cell_drew8 (new_cellB _ _ _ 1 _ rfl)) | exact hkeep _ _ (cell_drew8 (cell_one8 (new_cellB _ _ _ 1 _ rfl))) | exact hkeep _ _ (cell_drew8 (two_cell8 _ _ _ _ 1 _ rfl))
             rintro e w2 ⟨rfl, bu⟩
             have hcur : Below W0.heap.size W0 w2 := der_same (by first | exact hcur | exact der_al8 hcur | exact der_al8 (der_al8 hcur) | exact (der_al8 hcur).drew | exact (der_al8 (der_al8 hcur)).drew) bu
             have hkeep := der_keep8 bu
             have hst := HC.out w2 hcur
             have hrb := (hcur.block (w.heap.size + 1) hs1.out).trans hres.out
             have z0 := key_cell hrb 0 (by decide)
             have z1 := key_cell hrb 1 (by decide)
             have f0 := Lib.frozen_of_heap hrb 0
             have f1 := Lib.frozen_of_heap hrb 1
             have hr2 := hcur)
          | (go_at_call 16
             refine (H1.out _ _ ?c0 ?c1).mono ?_
             case c0 => first | exact new_cellB _ _ _ 0 _ rfl | exact cell_one8 (new_cellB _ _ _ 0 _ rfl) | exact two_cell8 _ _ _ _ 0 _ rfl | exact cell_drew8 (new_cellB _ _ _ 0 _ rfl) | exact cell_drew8 (cell_one8 (new_cellB _ _ _ 0 _ rfl)) | exact cell_drew8 (two_cell8 _ _ _ _ 0 _ rfl) | exact hkeep _ _ (new_cellB _ _ _ 0 _ rfl) | exact hkeep _ _ (cell_one8 (new_cellB _ _ _ 0 _ rfl)) | exact hkeep _ _ (two_cell8 _ _ _ _ 0 _ rfl) | exact hkeep _ _ (cell_drew8 (new_cellB _ _ _ 0 _ rfl)) | exact hkeep _ _ (cell_drew8 (cell_one8 (new_cellB _ _ _ 0 _ rfl))) | exact hkeep _ _ (cell_drew8 (two_cell8 _ _ _ _ 0 _ rfl))
             case c1 => first | exact new_cellB _ _ _ 1 _ rfl | exact cell_one8 (new_cellB _ _ _ 1 _ rfl) | exact two_cell8 _ _ _ _ 1 _ rfl | exact cell_drew8 (new_cellB _ _ _ 1 _ rfl) | exact cell_drew8 (cell_one8 (new_cellB _ _ _ 1 _ rfl)) | exact cell_drew8 (two_cell8 _ _ _ _ 1 _ rfl) | exact hkeep _ _ (new_cellB _ _ _ 1 _ rfl) | exact hkeep _ _ (cell_one8 (new_cellB _ _ _ 1 _ rfl)) | exact hkeep _ _ (two_cell8 _ _ _ _ 1 _ rfl) | exact hkeep _ _ (cell_drew8 (new_cellB _ _ _ 1 _ rfl)) | exact hkeep _ _ (cell_drew8 (cell_one8 (new_cellB _ _ _ 1 _ rfl))) | exact hkeep _ _ (cell_drew8 (two_cell8 _ _ _ _ 1 _ rfl))
             rintro e w1 ⟨rfl, bu⟩
             have hcur : Below W0.heap.size W0 w1 := der_same (by first | exact hcur | exact der_al8 hcur | exact der_al8 (der_al8 hcur) | exact (der_al8 hcur).drew | exact (der_al8 (der_al8 hcur)).drew) bu
             have hkeep := der_keep8 bu
             have hst := HC.out w1 hcur
             have st1 := trivial)
          | fail)
  all_goals
    have hb3 : Below w.heap.size w ((w2.setCell ⟨w.heap.size + 1, 0, none⟩ (.int .u64 (n64 P1))).setCell ⟨w.heap.size + 1, 1, none⟩ (.int .u64 (n64 P2))) := ((hb0.out.trans (hr2.mono hb0.out.size)).setCell (p := ⟨w.heap.size + 1, 0, none⟩) (Nat.le_succ _) _).setCell (p := ⟨w.heap.size + 1, 1, none⟩) (Nat.le_succ _) _
    clear HC HKEY H1 H2 hst hkeep hrb hs1
    go_wp2_with fail
    exact bodyPost_ret (v := .agg #[.int .u64 (n64 P1), .int .u64 (n64 P2)]) (by simp [results, Try.results18, go_sem, z0, z1]) rfl ⟨rfl, hb3⟩
end Go.Proofs.Ytlcfpdbiippenaa
