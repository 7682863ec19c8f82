/- Walks of the program's shortest, last and change. -/
import Derived.Test.YtgokinfejbefjaaDoorDistThr
import Derived.Laws.Rows
namespace Go.Proofs.YtgokinfejbefjaaDoor
open Go.RowKit
set_option maxRecDepth 100000

def stepsA : Array Value := #[.int .i64 0, .int .i64 1, .int .i64 1, .int .i64 3, .int .i64 1, .int .i64 1, .int .i64 2, .int .i64 1, .int .i64 0, .int .i64 1, .int .i64 0, .int .i64 1, .int .i64 4, .int .i64 2, .int .i64 2]
/-- What every world holds of the table of steps. -/
def SEnv (w : World) : Prop := ∃ T fr, w.heap[0]? = some (.cells stepsA T fr)
theorem SEnv.lt {w : World} (h : SEnv w) : 0 < w.heap.size := by
  obtain ⟨T, fr, h⟩ := h
  exact (Array.getElem?_eq_some_iff.1 h).1
theorem SEnv.below {B : Nat} {w w' : World} (h : SEnv w) (hb : Below B w w') (hB : w.heap.size ≤ B) : SEnv w' := by
  have hl := h.lt
  obtain ⟨T, fr, h⟩ := h
  exact ⟨T, fr, (hb.block _ (by omega)).trans h⟩
def accN (a b : ByteArray) (i j s : Nat) : Nat := DM.acc a.data.toList b.data.toList i j s
theorem accN_all (a b : ByteArray) (i j : Nat) (hi : i ≤ a.size) (hj : j ≤ b.size) : accN a b i j 5 = tabN a b i j := DM.acc_all _ _ i j (by rw [size_list]; exact hi) (by rw [size_list]; exact hj)
theorem accN_le (a b : ByteArray) (i j s : Nat) : accN a b i j s ≤ i + j := DM.acc_le _ _ i j s
theorem accN_some {a b : ByteArray} {i j s v : Nat} (h : cnd a b s i j = some v) : accN a b i j (s + 1) = min (accN a b i j s) v := DM.acc_some h
theorem accN_none {a b : ByteArray} {i j s : Nat} (h : cnd a b s i j = none) : accN a b i j (s + 1) = accN a b i j s := DM.acc_none h
def cmpObj (a b : ByteArray) (T : Nat) : Obj := .cells #[.string a, .string b, .slice (some ⟨T, 0, none⟩) (a.size + 1) (a.size + 1)] 57
theorem new_cell (w : World) (cs : Array Value) (T : TypeId) (k : Nat) (v : Value) (h : cs[k]? = some v) : (w.alloc (.cells cs T)).cell? ⟨w.heap.size, k, none⟩ = some v := by
  rw [cell_of_row _ _ _ _ _ _ (heap_alloc_new w _)]; exact h
theorem new_cell2 (w : World) (u : Obj) (cs : Array Value) (T : TypeId) (k : Nat) (v : Value) (h : cs[k]? = some v) : ((w.alloc u).alloc (.cells cs T)).cell? ⟨w.heap.size + 1, k, none⟩ = some v := by
  have := new_cell (w.alloc u) cs T k v h
  rwa [World.size_alloc] at this
theorem heap_two (w : World) (u : Obj) (cs : Array Value) (T : TypeId) : ((w.alloc u).alloc (.cells cs T)).heap[w.heap.size + 1]? = some (.cells cs T (0, 0)) := by
  have := heap_alloc_new (w.alloc u) (.cells cs T)
  rwa [World.size_alloc] at this
theorem st0 (W : World) : (Instr.index 71 (.agg #[.int .i64 0, .int .i64 1, .int .i64 1, .int .i64 3, .int .i64 1, .int .i64 1, .int .i64 2, .int .i64 1, .int .i64 0, .int .i64 1, .int .i64 0, .int .i64 1, .int .i64 4, .int .i64 2, .int .i64 2]) (.int .i64 0)).run Tryd.prog W = .ok (.agg #[.int .i64 0, .int .i64 1, .int .i64 1]) W := by
  simp [Instr.index, run_underlying Tryd.underlying71, asIntOf, go_sem]
theorem st1 (W : World) : (Instr.index 71 (.agg #[.int .i64 0, .int .i64 1, .int .i64 1, .int .i64 3, .int .i64 1, .int .i64 1, .int .i64 2, .int .i64 1, .int .i64 0, .int .i64 1, .int .i64 0, .int .i64 1, .int .i64 4, .int .i64 2, .int .i64 2]) (.int .i64 1)).run Tryd.prog W = .ok (.agg #[.int .i64 3, .int .i64 1, .int .i64 1]) W := by
  simp [Instr.index, run_underlying Tryd.underlying71, asIntOf, go_sem]
theorem st2 (W : World) : (Instr.index 71 (.agg #[.int .i64 0, .int .i64 1, .int .i64 1, .int .i64 3, .int .i64 1, .int .i64 1, .int .i64 2, .int .i64 1, .int .i64 0, .int .i64 1, .int .i64 0, .int .i64 1, .int .i64 4, .int .i64 2, .int .i64 2]) (.int .i64 2)).run Tryd.prog W = .ok (.agg #[.int .i64 2, .int .i64 1, .int .i64 0]) W := by
  simp [Instr.index, run_underlying Tryd.underlying71, asIntOf, go_sem]
theorem st3 (W : World) : (Instr.index 71 (.agg #[.int .i64 0, .int .i64 1, .int .i64 1, .int .i64 3, .int .i64 1, .int .i64 1, .int .i64 2, .int .i64 1, .int .i64 0, .int .i64 1, .int .i64 0, .int .i64 1, .int .i64 4, .int .i64 2, .int .i64 2]) (.int .i64 3)).run Tryd.prog W = .ok (.agg #[.int .i64 1, .int .i64 0, .int .i64 1]) W := by
  simp [Instr.index, run_underlying Tryd.underlying71, asIntOf, go_sem]
theorem st4 (W : World) : (Instr.index 71 (.agg #[.int .i64 0, .int .i64 1, .int .i64 1, .int .i64 3, .int .i64 1, .int .i64 1, .int .i64 2, .int .i64 1, .int .i64 0, .int .i64 1, .int .i64 0, .int .i64 1, .int .i64 4, .int .i64 2, .int .i64 2]) (.int .i64 4)).run Tryd.prog W = .ok (.agg #[.int .i64 4, .int .i64 2, .int .i64 2]) W := by
  simp [Instr.index, run_underlying Tryd.underlying71, asIntOf, go_sem]

set_option maxHeartbeats 4000000 in
theorem shortest_any (a b : ByteArray) (T i j : Nat) (w : World) (hE : SEnv w) (ha : a.size ≤ 64) (hb : b.size ≤ 64) (hi : i ≤ a.size) (hj : j ≤ b.size) (hK : ∀ i' j', i' ≤ i → j' ≤ j → i' + j' < i + j → KnownAt w a b T i' j') :
    Calls Tryd.prog 41 #[cmpV a b T, .int .i64 i, .int .i64 j] w fun e w' => e = .returned (.int .i64 (tabN a b i j : Int)) ∧ Below w.heap.size w w' := by
  have hlt := hE.lt
  obtain ⟨tt, fr, hg⟩ := hE
  have hg1 := fun u : Obj => (Below.heap_alloc w u 0 hlt).trans hg
  unfold stepsA at hg1
  have HK := Lib.hid hK
  have HALL := Lib.hid (accN_all a b i j hi hj)
  have HL := Lib.hid (accN_le a b i j)
  have HT := Lib.hid (fun s hs W hW => thr_any a b T i j s W ha hb hi hj hs hW)
  clear hK
  unfold cmpV
  go_enter Tryd.func41, Tryd.ntmps41
  go_wp2_with (refine wpList_load_row rfl 71 _ rfl 0 rfl tt _ fr _ (hg1 _) Tryd.underlying71 rfl (by kernel_rfl) ?_)
  have HB0 := Lib.hid (Below.refl (w.heap.size + 1) (w.alloc (cmpObj a b T)))
  have h0 := HL.out 0
  clear hg1 hg
  have e0 := fun W => st0 W
  have e1 := fun W => st1 W
  have e2 := fun W => st2 W
  have e3 := fun W => st3 W
  have e4 := fun W => st4 W
  go_loopw [7, 16] (fun len k wr => ∃ s : Nat, s ≤ 5 ∧ k = .int .i64 s ∧ len = .int .i64 (accN a b i j s : Int) ∧ Below (w.heap.size + 1) (w.alloc (cmpObj a b T)) wr) (fun _ k _ => 5 - (intOf k).toNat)
  case atStart => exact ⟨0, by omega, rfl, rfl, HB0.out⟩
  case round =>
    obtain ⟨s, hs, rfl, rfl, hbw⟩ := hrel
    have hsz := hbw.size
    simp only [World.size_alloc] at hsz
    have c0 : wr.cell? ⟨w.heap.size, 0, none⟩ = some (.string a) := (hbw.cell (p := ⟨w.heap.size, 0, none⟩) (Nat.lt_succ_self _)).trans (new_cell w _ _ 0 _ rfl)
    have c1 : wr.cell? ⟨w.heap.size, 1, none⟩ = some (.string b) := (hbw.cell (p := ⟨w.heap.size, 1, none⟩) (Nat.lt_succ_self _)).trans (new_cell w _ _ 1 _ rfl)
    have c2 : wr.cell? ⟨w.heap.size, 2, none⟩ = some (.slice (some ⟨T, 0, none⟩) (a.size + 1) (a.size + 1)) := (hbw.cell (p := ⟨w.heap.size, 2, none⟩) (Nat.lt_succ_self _)).trans (new_cell w _ _ 2 _ rfl)
    have d0 := fun u : Obj => cell_one (u := u) c0
    have d1 := fun u : Obj => cell_one (u := u) c1
    have d2 := fun u : Obj => cell_one (u := u) c2
    have hbw0 : Below w.heap.size w wr := ((Below.refl w.heap.size w).alloc (Nat.le_refl _) (cmpObj a b T)).trans (hbw.mono (Nat.le_succ _))
    have HKW := Lib.hid (fun i' j' h1 h2 h3 => (HK.out i' j' h1 h2 h3).below hbw0)
    have hl1 := HL.out s
    by_cases h5 : s = 5
    · subst h5
      go_wp2
      go_ret
      exact ⟨by rw [HALL.out]; rfl, hbw0⟩
    · have hs5 : s < 5 := by omega
      have HX := Lib.hid (HT.out s hs5)
      obtain ⟨S, hS⟩ : ∃ S, S = s + 1 := ⟨_, rfl⟩
      have hS5 : S ≤ 5 := by omega
      have HN := Lib.hid (show ∀ v, cnd a b s i j = some v → accN a b i j S = min (accN a b i j s) v from fun v h => by rw [hS]; exact accN_some h)
      have HZ := Lib.hid (show cnd a b s i j = none → accN a b i j S = accN a b i j s from fun h => by rw [hS]; exact accN_none h)
      have hS := Lib.hid hS
      generalize hA : accN a b i j s = A at *
      clear hA
      obtain rfl | rfl | rfl | rfl | rfl : s = 0 ∨ s = 1 ∨ s = 2 ∨ s = 3 ∨ s = 4 := by omega
      all_goals
        go_wp2_with fail
        refine (HX.out _ (fun i' j' h1 h2 h3 => (HKW.out i' j' h1 h2 h3).below ((Below.refl _ wr).alloc (Nat.le_refl _) _))).mono ?_
        rintro e w2 ⟨⟨v, ok, rfl, hv, hc⟩, hb2⟩
        have hb3 := hbw.trans (((Below.refl _ wr).alloc hsz _).trans (hb2.mono (by simp; omega)))
        rcases hc with ⟨rfl, hc⟩ | ⟨rfl, hc⟩
        · obtain ⟨M, hM⟩ : ∃ M, M = min A v := ⟨_, rfl⟩
          have hmin := fun (W : World) (ts : Array TypeId) (ty : TypeId) => min2 (W := W) ts ty (A : Int) (v : Int) M (by omega)
          have HM := Lib.hid ((HN.out v hc).trans hM.symm)
          clear hM hc
          go_wp2
          exact ⟨⟨S, hS5, by rw [hS.out]; rfl, by rw [HM.out], hb3⟩, by simp [intOf]⟩
        · have HM := Lib.hid (HZ.out hc)
          clear hc
          go_wp2
          exact ⟨⟨S, hS5, by rw [hS.out]; rfl, by rw [HM.out], hb3⟩, by simp [intOf]⟩

set_option maxHeartbeats 4000000 in
theorem last_any (a b : ByteArray) (T i j s : Nat) (w : World) (hE : SEnv w) (ha : a.size ≤ 64) (hb : b.size ≤ 64) (hi : i ≤ a.size) (hj : j ≤ b.size) (hK : ∀ i' j', i' ≤ i → j' ≤ j → KnownAt w a b T i' j')
    (hs : s < 5) (hy : cnd a b s i j = some (tabN a b i j)) (hn : ∀ q, q < s → cnd a b q i j ≠ some (tabN a b i j)) :
    Calls Tryd.prog 32 #[cmpV a b T, .int .i64 i, .int .i64 j] w fun e w' => e = .returned (stepV s) ∧ Below w.heap.size w w' := by
  have hlt := hE.lt
  obtain ⟨tt, fr, hg⟩ := hE
  have hg1 := fun u u' : Obj => (Below.heap_alloc (w.alloc u) u' 0 (by simp)).trans ((Below.heap_alloc w u 0 hlt).trans hg)
  unfold stepsA at hg1
  have HK := Lib.hid hK
  have HT := Lib.hid (fun s hs W hW => thr_any a b T i j s W ha hb hi hj hs hW)
  have HY := Lib.hid hy
  have HN := Lib.hid hn
  have hz := tabN_le a b i j ha hb
  clear hK hy hn
  unfold cmpV
  go_enter Tryd.func32, Tryd.ntmps32
  go_wp2_with (refine wpList_load_row rfl 71 _ rfl 0 rfl tt _ fr _ (hg1 _ _) Tryd.underlying71 rfl (by kernel_rfl) ?_)
  have HB0 := Lib.hid (Below.refl (w.heap.size + 2) ((w.alloc (cmpObj a b T)).alloc (.cells #[.int .i64 0, .int .i64 0, .int .i64 0] 61)))
  clear hg1 hg
  have e0 := fun W => st0 W
  have e1 := fun W => st1 W
  have e2 := fun W => st2 W
  have e3 := fun W => st3 W
  have e4 := fun W => st4 W
  go_loopw [12] (fun k wr => ∃ q : Nat, q ≤ s ∧ k = .int .i64 q ∧ Below (w.heap.size + 2) ((w.alloc (cmpObj a b T)).alloc (.cells #[.int .i64 0, .int .i64 0, .int .i64 0] 61)) wr) (fun k _ => 5 - (intOf k).toNat)
  case atStart => exact ⟨0, by omega, rfl, HB0.out⟩
  case round =>
    obtain ⟨q, hq, rfl, hbw⟩ := hrel
    have hsz := hbw.size
    simp only [World.size_alloc] at hsz
    have c0 : wr.cell? ⟨w.heap.size, 0, none⟩ = some (.string a) := (hbw.cell (p := ⟨w.heap.size, 0, none⟩) (by show w.heap.size < w.heap.size + 2; omega)).trans (cell_one (new_cell w _ _ 0 _ rfl))
    have c1 : wr.cell? ⟨w.heap.size, 1, none⟩ = some (.string b) := (hbw.cell (p := ⟨w.heap.size, 1, none⟩) (by show w.heap.size < w.heap.size + 2; omega)).trans (cell_one (new_cell w _ _ 1 _ rfl))
    have c2 : wr.cell? ⟨w.heap.size, 2, none⟩ = some (.slice (some ⟨T, 0, none⟩) (a.size + 1) (a.size + 1)) := (hbw.cell (p := ⟨w.heap.size, 2, none⟩) (by show w.heap.size < w.heap.size + 2; omega)).trans (cell_one (new_cell w _ _ 2 _ rfl))
    have d0 := fun u : Obj => cell_one (u := u) c0
    have d1 := fun u : Obj => cell_one (u := u) c1
    have d2 := fun u : Obj => cell_one (u := u) c2
    have hres := Lib.hid ((hbw.block (w.heap.size + 1) (by omega)).trans (heap_two w _ _ _))
    have hbw0 : Below w.heap.size w wr := (two_new w _ _).trans (hbw.mono (by omega))
    have HKW := Lib.hid (fun i' j' h1 h2 => (HK.out i' j' h1 h2).below hbw0)
    have hq5 : q < 5 := by omega
    have HX := Lib.hid (HT.out q hq5)
    have HQ := Lib.hid (show q = s ∨ q < s by omega)
    obtain ⟨S, hS⟩ : ∃ S, S = q + 1 := ⟨_, rfl⟩
    have HS5 := Lib.hid (show q < s → S ≤ s by omega)
    have hS := Lib.hid hS
    clear hq
    obtain rfl | rfl | rfl | rfl | rfl : q = 0 ∨ q = 1 ∨ q = 2 ∨ q = 3 ∨ q = 4 := by omega
    all_goals
      go_wp2_with fail
      refine (HX.out _ (fun i' j' h1 h2 h3 => (HKW.out i' j' h1 h2).below ((Below.refl _ wr).alloc (Nat.le_refl _) _))).mono ?_
      rintro e w2 ⟨⟨v, ok, rfl, hv, hc⟩, hb2⟩
      have hb1 : Below wr.heap.size wr w2 := ((Below.refl _ wr).alloc (Nat.le_refl _) _).trans (hb2.mono (by simp))
      have hb3 := hbw.trans (hb1.mono hsz)
      obtain ⟨R, k1, k2⟩ := (HKW.out i j (Nat.le_refl _) (Nat.le_refl _)).below hb1
      have x0 : w2.cell? ⟨w.heap.size, 0, none⟩ = some (.string a) := (hb1.cell (p := ⟨w.heap.size, 0, none⟩) (by show w.heap.size < wr.heap.size; omega)).trans c0
      have x1 : w2.cell? ⟨w.heap.size, 1, none⟩ = some (.string b) := (hb1.cell (p := ⟨w.heap.size, 1, none⟩) (by show w.heap.size < wr.heap.size; omega)).trans c1
      have x2 : w2.cell? ⟨w.heap.size, 2, none⟩ = some (.slice (some ⟨T, 0, none⟩) (a.size + 1) (a.size + 1)) := (hb1.cell (p := ⟨w.heap.size, 2, none⟩) (by show w.heap.size < wr.heap.size; omega)).trans c2
      have q3 : (i : Int) < (a.size : Int) + 1 := by omega
      have q4 : (j : Int) < (b.size : Int) + 1 := by omega
      have hnew := fun k v h => (hb2.cell (p := ⟨wr.heap.size, k, none⟩) (by simp)).trans (new_cell wr _ 61 k v h)
      have y0 := hnew 0 _ rfl
      have y1 := hnew 1 _ rfl
      have y2 := hnew 2 _ rfl
      have hrb := (hb1.block (w.heap.size + 1) (by omega)).trans hres.out
      have z0 : w2.cell? ⟨w.heap.size + 1, 0, none⟩ = some (.int .i64 0) := by rw [cell_of_row _ _ _ _ _ _ hrb]; rfl
      have z1 : w2.cell? ⟨w.heap.size + 1, 1, none⟩ = some (.int .i64 0) := by rw [cell_of_row _ _ _ _ _ _ hrb]; rfl
      have z2 : w2.cell? ⟨w.heap.size + 1, 2, none⟩ = some (.int .i64 0) := by rw [cell_of_row _ _ _ _ _ _ hrb]; rfl
      have f0 : w2.frozen? ⟨w.heap.size + 1, 0, none⟩ = false := Lib.frozen_of_heap hrb 0
      have f1 : w2.frozen? ⟨w.heap.size + 1, 1, none⟩ = false := Lib.frozen_of_heap hrb 1
      have f2 : w2.frozen? ⟨w.heap.size + 1, 2, none⟩ = false := Lib.frozen_of_heap hrb 2
      clear hrb hnew
      rcases HQ.out with hqs | hqs
      · subst hqs
        rcases hc with ⟨rfl, hc⟩ | ⟨rfl, hc⟩
        · have hvt : v = tabN a b i j := by have := HY.out; rw [hc] at this; exact Option.some.inj this
          subst hvt
          clear hc
          have hbase : Below w.heap.size w w2 := hbw0.trans (hb1.mono (by omega))
          go_wp2
          exact bodyPost_ret (v := stepV _) (by simp [results, Tryd.results32, stepV, go_sem, z0, z1, z2]) rfl ⟨rfl, ((hbase.setCell (p := ⟨w.heap.size + 1, 0, none⟩) (Nat.le_succ _) _).setCell (p := ⟨w.heap.size + 1, 1, none⟩) (Nat.le_succ _) _).setCell (p := ⟨w.heap.size + 1, 2, none⟩) (Nat.le_succ _) _⟩
        · exact absurd (hc.symm.trans HY.out) (by simp)
      · rcases hc with ⟨rfl, hc⟩ | ⟨rfl, hc⟩
        · have hvt : ((v : Int) == (tabN a b i j : Int)) = false := by
            simp
            intro h
            exact HN.out _ hqs (by rw [hc]; congr 1; omega)
          clear hc
          first
          | (exfalso; omega)
          | (go_wp2
             exact ⟨⟨S, HS5.out hqs, by rw [hS.out]; rfl, hb3⟩, by simp [intOf]⟩)
        · clear hc
          first
          | (exfalso; omega)
          | (go_wp2
             exact ⟨⟨S, HS5.out hqs, by rw [hS.out]; rfl, hb3⟩, by simp [intOf]⟩)
end Go.Proofs.YtgokinfejbefjaaDoor
