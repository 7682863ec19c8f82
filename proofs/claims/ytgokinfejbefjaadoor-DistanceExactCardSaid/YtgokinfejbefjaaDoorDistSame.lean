/- Walks of the reference's Proves and Same. -/
import Derived.Test.YtgokinfejbefjaaDoorDistApply
namespace Go.Proofs.YtgokinfejbefjaaDoor
open Go.RowKit
set_option maxRecDepth 100000

def prB (a b : ByteArray) (cs : List DM.Ch) : Bool := decide ((apN a cs).2 = 0) && (apN a cs).1.toList == b.toList

set_option maxHeartbeats 1000000 in
theorem rProves_any (B : Nat) (a b : ByteArray) (v : Value) (cs : List DM.Ch) (w : World) (ha : a.size ≤ maxLen) (h : IsChs B w v cs) (hB : B ≤ w.heap.size) (hl : cs.length ≤ 1000000) :
    Calls Tryd.prog 23 #[.string a, .string b, v] w fun e w' => e = .returned (.bool (prB a b cs)) ∧ Below w.heap.size w w' := by
  have hA := Lib.hid (rApply_any B a v cs w ha h hB hl)
  obtain ⟨ad, cap, rfl, -⟩ := h
  have HP := Lib.hid (show prB a b cs = (decide ((apN a cs).2 = 0) && (apN a cs).1.toList == b.toList) from rfl)
  unfold apV at hA
  generalize apN a cs = R at *
  obtain ⟨S, E⟩ := R
  simp only at hA HP
  go_enter Tryd.func23, Tryd.ntmps23
  go_wp2_with fail
  refine hA.out.mono ?_
  rintro e w1 ⟨rfl, b1⟩
  by_cases hE : E = 0
  · subst hE
    go_wp2
    go_ret
    exact ⟨ret_bool (by rw [HP.out]; simp), b1⟩
  · have t1 : ((E : Int) == 0) = false := by simp; omega
    have HE := Lib.hid hE
    clear hE
    go_wp2
    go_ret
    exact ⟨ret_bool (by rw [HP.out]; simp [HE.out]), b1⟩

def sameCB (xs ys : List DM.Ch) : Bool := decide (xs = ys)

set_option maxHeartbeats 2000000 in
theorem rSameC_any (B : Nat) (v u : Value) (xs ys : List DM.Ch) (w : World) (h : IsChs B w v xs) (h' : IsChs B w u ys) (hB : B ≤ w.heap.size) :
    Calls Tryd.prog 19 #[v, u] w fun e w' => e = .returned (.bool (sameCB xs ys)) ∧ Below w.heap.size w w' := by
  obtain ⟨A, cap, rfl, h1, h2, -, hc⟩ := h.cells
  obtain ⟨A', cap', rfl, h1', h2', -, hc'⟩ := h'.cells
  unfold maxLen at h2 h2'
  clear h h'
  have HC := Lib.hid hc
  have HC' := Lib.hid hc'
  clear hc hc'
  by_cases hlen : xs.length = ys.length
  · have HL := Lib.hid hlen
    rw [← hlen]
    rw [← hlen] at h1'
    clear hlen
    go_enter Tryd.func19, Tryd.ntmps19
    go_wp2
    go_loopw [5] (fun i wr => ∃ (k : Nat), k ≤ xs.length ∧ i = .int .i64 k ∧ xs.take k = ys.take k ∧ Below w.heap.size w wr) (fun i _ => xs.length - (intOf i).toNat)
    case atStart => exact ⟨0, by omega, rfl, rfl, Below.refl _ _⟩
    case round =>
      obtain ⟨k, hk, rfl, hacc, hbw⟩ := hrel
      have HA := Lib.hid hacc
      clear hacc
      by_cases hlt : k < xs.length
      · have hky : k < ys.length := by rw [← HL.out]; exact hlt
        obtain ⟨b, o, rfl, hbB, x0, x1, x2⟩ := HC.out k hlt
        obtain ⟨b', o', rfl, hbB', y0, y1, y2⟩ := HC'.out k hky
        have hb1 : b < w.heap.size := by omega
        have hb2 : b' < w.heap.size := by omega
        have k0 := (hbw.cell (p := ⟨b, _, none⟩) hb1).trans x0
        have k1 := (hbw.cell (p := ⟨b, _, none⟩) hb1).trans x1
        have k2 := (hbw.cell (p := ⟨b, _, none⟩) hb1).trans x2
        have l0 := (hbw.cell (p := ⟨b', _, none⟩) hb2).trans y0
        have l1 := (hbw.cell (p := ⟨b', _, none⟩) hb2).trans y1
        have l2 := (hbw.cell (p := ⟨b', _, none⟩) hb2).trans y2
        have i1 : (k : Int) < (xs.length : Int) := by omega
        have HS := Lib.hid (show xs[k] = ys[k] → xs.take (k + 1) = ys.take (k + 1) from fun e => by
          rw [List.take_succ_eq_append_getElem hlt, List.take_succ_eq_append_getElem hky, HA.out, e])
        have HN := Lib.hid (show xs[k] ≠ ys[k] → sameCB xs ys = false from fun hne => by
          unfold sameCB
          rw [decide_eq_false_iff_not]
          rintro rfl
          exact hne rfl)
        clear x0 x1 x2 y0 y1 y2
        generalize xs[k] = P at *
        generalize ys[k] = Q at *
        obtain ⟨pk, pp, py⟩ := P
        obtain ⟨qk, qp, qy⟩ := Q
        simp only at k0 k1 k2 l0 l1 l2
        by_cases e0 : pk = qk
        · by_cases e1 : pp = qp
          · by_cases e2 : py = qy
            · subst e0 e1 e2
              have hs := Lib.hid (HS.out rfl)
              go_wp2_with fail
              go_quiet (fail)
              go_wp2
              exact ⟨⟨k + 1, by omega, by go_num, hs.out, below_drewN hbw _⟩, by simp [intOf]; omega⟩
            · subst e0 e1
              have hn := HN.out (fun h => e2 (by simpa using h))
              have t2 : (py == qy) = false := by simpa using e2
              go_wp2_with fail
              go_quiet (fail)
              go_wp2
              go_ret
              exact ⟨ret_bool hn.symm, below_drewN hbw _⟩
          · subst e0
            have hn := HN.out (fun h => e1 (by injection h with _ h; injection h))
            have t1 : (pp == qp) = false := by simpa using e1
            go_wp2_with fail
            go_quiet (fail)
            go_wp2
            go_ret
            exact ⟨ret_bool hn.symm, below_drewN hbw _⟩
        · have hn := HN.out (fun h => e0 (by injection h))
          have t0 : (pk == qk) = false := by simpa using e0
          go_wp2_with fail
          go_quiet (fail)
          go_wp2
          go_ret
          exact ⟨ret_bool hn.symm, below_drewN hbw _⟩
      · go_wp2
        go_ret
        refine ⟨ret_bool ?_, hbw⟩
        have h := HA.out
        have hl := HL.out
        rw [List.take_of_length_le (by omega), List.take_of_length_le (by omega)] at h
        unfold sameCB
        exact (decide_eq_true h).symm
  · have hs : sameCB xs ys = false := by
      unfold sameCB
      rw [decide_eq_false_iff_not]
      rintro rfl
      exact hlen rfl
    have HS := Lib.hid hs
    have hn : ((xs.length : Int) != (ys.length : Int)) = true := by simp; omega
    clear hs hlen
    go_enter Tryd.func19, Tryd.ntmps19
    go_wp2
    go_ret
    exact ⟨ret_bool HS.out.symm, Below.refl _ _⟩
end Go.Proofs.YtgokinfejbefjaaDoor
