/- The walk of the reference's Set. -/
import Derived.Test.YtjdjjehdognpiaaDoorGramWalk
import Derived.Sort.Walk0
namespace Go.Proofs.YtjdjjehdognpiaaDoor
open Go.RowKit
set_option linter.unusedVariables false
set_option maxRecDepth 100000

theorem less_bs (x : List UInt8) (y : ByteArray) : Op.bytesLess (bs x).toList y.toList = decide (x < y.data.toList) := by
  rw [Lib.toList_data, Lib.toList_data, Go.Proofs.bytesLess_eq, list_bs]
theorem beq_bs (x : List UInt8) (y : ByteArray) : ((bs x).toList == y.toList) = decide (x = y.data.toList) := by
  rw [Lib.toList_data, Lib.toList_data, Bool.eq_iff_iff, beq_iff_eq, decide_eq_true_eq, list_bs]
/-- A row that holds something lies in a block. -/
theorem owns_form {base : Nat} {w : World} {v : Value} {L : List (List UInt8)} (h : OwnsL base w v L) (hn : v = .slice none 0 0 ∨ L ≠ []) (h0 : L ≠ []) : ∃ g cap, v = .slice (some ⟨g, 0, none⟩) L.length cap ∧ L.length ≤ cap ∧ cap ≤ maxLen ∧ base ≤ g ∧ g < w.heap.size ∧
    ∀ j, ∀ hj : j < L.length, w.cell? ⟨g, j, none⟩ = some (.string (bs L[j])) := by
  have hl : 0 < L.length := List.length_pos_iff.2 h0
  rcases h.2 with ⟨-, h1⟩ | ⟨g, cap, cur, hv, hbg, hg, hnc, hcm, hcs, htake⟩
  · omega
  · refine ⟨g, cap, hv, hnc, hcm, hbg, (Array.getElem?_eq_some_iff.1 hg).1, fun j hj => ?_⟩
    have := World.ownsRow.cells h (g := g) (by rw [hv]; rfl) j (.string (bs L[j])) (by rw [List.getElem?_map, List.getElem?_eq_getElem hj]; rfl)
    rw [← this, addr_add, Nat.zero_add]

theorem owns_bs {base : Nat} {w : World} {v : Value} {L : List (List UInt8)} (h : OwnsL base w v L) : w.ownsRow base 9 1 v (L.map bs).length ((L.map bs).map Value.string) := by
  have e : (L.map bs).map Value.string = L.map Go.Proofs.encStr := by simp [bs]
  rw [e, List.length_map]
  exact h
theorem owns_of_bs {base : Nat} {w : World} {v : Value} {xs : List ByteArray} (h : w.ownsRow base 9 1 v xs.length (xs.map Value.string)) : OwnsL base w v (xs.map (·.data.toList)) := owns_texts h
/-- The front of a slice, and what is behind it. -/
theorem texts_front {B g cap k : Nat} {w : World} {L : List (List UInt8)} (hg : g < B) (h1 : L.length ≤ cap) (h2 : cap ≤ maxLen) (hc : ∀ j, ∀ hj : j < L.length, w.cell? ⟨g, j, none⟩ = some (.string (bs L[j]))) (hk : k ≤ L.length) :
    IsTexts B w (.slice (some ⟨g, 0, none⟩) k cap) ((L.take k).map bs) := by
  have hl : ((L.take k).map bs).length = k := by rw [List.length_map, List.length_take]; omega
  refine ⟨_, _, by rw [hl], by rw [hl]; omega, h2, .inr ⟨g, 0, rfl, hg, fun j x hx => ?_⟩⟩
  have hj := (List.getElem?_eq_some_iff.1 hx).1
  rw [hl] at hj
  rw [List.getElem?_map, List.getElem?_take_of_lt hj, List.getElem?_eq_getElem (by omega)] at hx
  simp only [Option.map_some, Option.some.injEq] at hx
  rw [Nat.zero_add, hc j (by omega), hx]
theorem texts_back {B g cap k : Nat} {w : World} {L : List (List UInt8)} (hg : g < B) (h1 : L.length ≤ cap) (h2 : cap ≤ maxLen) (hc : ∀ j, ∀ hj : j < L.length, w.cell? ⟨g, j, none⟩ = some (.string (bs L[j]))) (hk : k ≤ L.length) :
    ∃ A : Addr, (if cap = k then some (⟨g, 0, none⟩ : Addr) else some ⟨g, k, none⟩) = some A ∧ IsTexts B w (.slice (some A) (L.length - k) (cap - k)) ((L.drop k).map bs) := by
  have hl : ((L.drop k).map bs).length = L.length - k := by rw [List.length_map, List.length_drop]
  by_cases h : cap = k
  · refine ⟨⟨g, 0, none⟩, by rw [if_pos h], _, _, by rw [hl], by rw [hl]; omega, by unfold maxLen at *; omega, .inl ?_⟩
    rw [List.drop_eq_nil_of_le (by omega)]
    rfl
  · refine ⟨⟨g, k, none⟩, by rw [if_neg h], _, _, by rw [hl], by rw [hl]; omega, by unfold maxLen at *; omega, .inr ⟨g, k, rfl, hg, fun j x hx => ?_⟩⟩
    have hj := (List.getElem?_eq_some_iff.1 hx).1
    rw [hl] at hj
    rw [List.getElem?_map, List.getElem?_drop, List.getElem?_eq_getElem (by omega)] at hx
    simp only [Option.map_some, Option.some.injEq] at hx
    rw [hc (k + j) (by omega), hx]

theorem texts_none (B : Nat) (w : World) : IsTexts B w (.slice none 0 0) [] := ⟨none, 0, rfl, Nat.le_refl _, Nat.zero_le _, .inl rfl⟩

set_option maxHeartbeats 2000000 in
theorem rSet_any (B : Nat) (v : Value) (xs : List ByteArray) (w : World) (h : IsTexts B w v xs) (hB : B ≤ w.heap.size) (hl : xs.length ≤ 900) :
    Calls Tryd.prog 25 #[v] w fun e w' => ∃ u, e = .returned u ∧ OwnsL w.heap.size w' u (GM.setL (xs.map (·.data.toList))) ∧ Below w.heap.size w w' := by
  obtain ⟨a, c, rfl, h1, h2, h3⟩ := h
  have HX := Lib.hid h3
  clear h3
  unfold maxLen at h2
  go_enter Tryd.func25, Tryd.ntmps25
  go_wp2
  go_loopw [3, 4] (fun o i wr => ∃ (n : Nat) (L : List (List UInt8)), n ≤ xs.length ∧ i = .int .i64 n ∧ L.length ≤ n ∧ L = GM.setL ((xs.take n).map (·.data.toList)) ∧ OwnsL w.heap.size wr o L ∧ (o = .slice none 0 0 ∨ L ≠ []) ∧ Below w.heap.size w wr) (fun _ i _ => xs.length - (intOf i).toNat)
  case atStart => exact ⟨0, [], by omega, rfl, Nat.le_refl _, rfl, owns_nil _ _, .inl rfl, Below.refl _ _⟩
  case round =>
    obtain ⟨n, L, hn, rfl, hLn, hLe, hown, hnil, hbw⟩ := hrel
    have HW := Lib.hid hown
    have HLE := Lib.hid hLe
    have HN := Lib.hid hnil
    clear hown hLe hnil
    have hsz := hbw.size
    by_cases hlt : n < xs.length
    · obtain ⟨b, o, rfl, hbB, hc⟩ := HX.out.resolve_left (by intro e; rw [e] at hlt; exact absurd hlt (Nat.not_lt_zero _))
      have hcell := (hbw.cell (p := ⟨b, o + n, none⟩) (by show b < w.heap.size; omega)).trans (hc n _ (List.getElem?_eq_getElem hlt))
      clear hc
      have HT := Lib.hid (show GM.setL ((xs.take (n + 1)).map (·.data.toList)) = GM.ins xs[n].data.toList L by
        rw [List.take_succ_eq_append_getElem hlt, List.map_append]
        show GM.setL (_ ++ [xs[n].data.toList]) = _
        rw [GM.setL_snoc, ← HLE.out])
      have t0 : decide ((n : Int) < (xs.length : Int)) = true := by simp; omega
      generalize xs[n] = x at *
      by_cases h0 : L = []
      · subst h0
        obtain rfl : _ = Value.slice none 0 0 := HN.out.resolve_right (fun h => h rfl)
        go_wp2
        refine wp_loop_rounds 1 ?_
        rw [rounds_succ]
        go_wp2
        go_quiet (fail)
        obtain ⟨W1, hW1⟩ : ∃ W1, wr.drewN nq = W1 := ⟨_, rfl⟩
        have hc1 : W1.cell? ⟨b, o + n, none⟩ = some (.string x) := by rw [← hW1]; exact hcell
        have HBR1 := Lib.hid (show Below w.heap.size w W1 by rw [← hW1]; exact below_drewN hbw _)
        rw [hW1]
        clear hW1 hcell
        go_wp2
        go_quiet (fail)
        go_wp2
        obtain ⟨W2, hW2⟩ : ∃ W2, W1.drewN nq = W2 := ⟨_, rfl⟩
        have hc3 : W2.cell? ⟨b, o + n, none⟩ = some (.string x) := by rw [← hW2]; exact hc1
        have HBR2 := Lib.hid (show Below w.heap.size w W2 by rw [← hW2]; exact below_drewN HBR1.out _)
        rw [hW2]
        clear hW2 hc1 HBR1
        have hw2 : w.heap.size ≤ W2.heap.size := HBR2.out.size
        have hbW : b < W2.heap.size := by omega
        go_region_law
          (first
            | (refine step_append_texts ?g1 (.const (.slice none 0 0)) (.tmp 46) ?g2 W2.heap.size ?g3 (.slice none 0 0) [] ?g4 (World.ownsRow_nil _ _ _ _) W2.heap.size _ ([] : List ByteArray) ?g5 (texts_none _ _) proper_nil ?g6 ?_
               case g2 => rfl
               case g1 => rfl
               case g3 => first | exact Nat.le_refl _ | (simp; done) | (simp; omega)
               case g4 => rfl
               case g5 => simp [Act.eval, Act.put]
               case g6 => first | (simp; done) | (simp; omega)
               intro v1 w3 own1 grow1
               have F1 : Below W2.heap.size W2 w3 := Below.trans (by repeat (first | exact Below.refl _ _ | refine below_drew ?_ | refine Below.alloc ?_ (by first | exact Nat.le_refl _ | (simp; done) | (simp; omega)) _)) (below_none grow1 (by first | exact Nat.le_refl _ | (simp; done) | (simp; omega)) (fun q hq => by cases hq))
               have hsz3 : W2.heap.size ≤ w3.heap.size := F1.size
               have hkw := (bcell (below_none grow1 (Nat.le_refl _) (fun q hq => by cases hq))).1
               have hcw : w3.cell? ⟨b, o + n, none⟩ = some (.string x) := (F1.cell (p := ⟨b, o + n, none⟩) hbW).trans hc3)
            | (refine step_append_texts ?g1 (.tmp 47) (.tmp 52) ?g2 W2.heap.size ?g3 v1 ([] ++ ([] : List ByteArray)) ?g4 ?g8 _ _ [x] ?g5 (texts_one (n := w3.heap.size) ?g7) (proper_some _ _ _) ?g6 ?_
               case g2 => rfl
               case g1 => rfl
               case g3 => first | exact hsz3 | (simp; omega)
               case g4 => simp [Act.eval]
               case g5 => simp [Act.eval]
               case g6 => first | (simp; done) | (simp; omega)
               case g7 => first | (simp; done) | (rw [hcw]; simp)
               case g8 => first | exact own1 | exact own1.alloc _ | exact (own1.alloc _).alloc _
               intro v2 w5 own2 grow2
               have F2 : Below W2.heap.size W2 w5 := Below.trans (Below.trans F1 (by repeat (first | exact Below.refl _ _ | refine below_drew ?_ | refine Below.alloc ?_ (by first | omega | (simp; omega)) _))) (below_none grow2 (by first | exact hsz3 | (simp; omega)) (fun q hq => (owns_at own1 hq).1))
               have hsz5 : W2.heap.size ≤ w5.heap.size := F2.size)
            | (refine step_append_texts ?g1 (.tmp 47) (.tmp 52) ?g2 W2.heap.size ?g3 v1 ([] ++ ([] : List ByteArray)) ?g4 ?g8 _ _ [x] ?g5 (texts_one (n := W2.heap.size) ?g7) (proper_some _ _ _) ?g6 ?_
               case g2 => rfl
               case g1 => rfl
               case g3 => first | exact hsz3 | (simp; omega)
               case g4 => simp [Act.eval]
               case g5 => simp [Act.eval]
               case g6 => first | (simp; done) | (simp; omega)
               case g7 => rw [hkw _ _ (by simp)]; simp
               case g8 => first | exact own1 | exact own1.alloc _ | exact (own1.alloc _).alloc _
               intro v2 w5 own2 grow2
               have F2 : Below W2.heap.size W2 w5 := Below.trans (Below.trans F1 (by repeat (first | exact Below.refl _ _ | refine below_drew ?_ | refine Below.alloc ?_ (by first | omega | (simp; omega)) _))) (below_none grow2 (by first | exact hsz3 | (simp; omega)) (fun q hq => (owns_at own1 hq).1))
               have hsz5 : W2.heap.size ≤ w5.heap.size := F2.size)
            | (refine step_append_texts ?g1 (.tmp 53) (.tmp 56) ?g2 W2.heap.size ?g3 v2 ([] ++ ([] : List ByteArray) ++ [x]) ?g4 ?g8 W2.heap.size _ ([] : List ByteArray) ?g5 (texts_none _ _) proper_nil ?g6 ?_
               case g2 => rfl
               case g1 => rfl
               case g3 => first | exact hsz5 | (simp; omega)
               case g4 => simp [Act.eval]
               case g5 => simp [Act.eval]
               case g6 => first | (simp; done) | (simp; omega)
               case g8 => first | exact own2 | exact own2.alloc _
               intro v3 w7 own3 grow3
               have F3 : Below W2.heap.size W2 w7 := Below.trans F2 (below_none grow3 hsz5 (fun q hq => (owns_at own2 hq).1))))
        all_goals
          have hof := owns_of_bs own3
          have HOF := Lib.hid hof
          clear hof own1 own2 own3 hcw hkw hsz3 hsz5 grow1 grow2 grow3
          go_wp2
          have hfin := HOF.out
          have hins : GM.ins x.data.toList [] = [x.data.toList] := rfl
          refine ⟨⟨n + 1, [x.data.toList], by omega, by go_num, by simp, by rw [HT.out, hins], ownsRow_base_a hfin hw2, .inr (by simp), HBR2.out.trans (F3.mono hw2)⟩, by simp [intOf]; omega⟩
      · obtain ⟨g, cap, rfl, hg1, hg2, hg3, hg4, hg5⟩ := owns_form HW.out HN.out h0
        have HG5 := Lib.hid hg5
        clear hg5
        have hlen : 0 < L.length := List.length_pos_iff.2 h0
        unfold maxLen at hg2
        obtain ⟨W0, hW0⟩ : ∃ W, W = wr := ⟨_, rfl⟩
        rw [← hW0] at hbw HW hsz hcell hg4 HG5 ⊢
        clear hW0
        go_wp2
        go_loopw [5] (fun i wr => ∃ k : Nat, k ≤ L.length ∧ i = .int .i64 k ∧ (∀ j, j < k → ∀ hj : j < L.length, L[j] < x.data.toList) ∧ (∀ p : Addr, wr.cell? p = W0.cell? p) ∧ wr.heap.size = W0.heap.size ∧ Below w.heap.size w wr ∧ Below W0.heap.size W0 wr) (fun i _ => L.length - (intOf i).toNat)
        case atStart => exact ⟨0, by omega, rfl, fun j hj => absurd hj (Nat.not_lt_zero _), fun _ => rfl, rfl, hbw, Below.refl _ _⟩
        case round =>
          obtain ⟨k, hk, rfl, hall, hcl, hws, hbr, hb0⟩ := hrel
          have HALL := Lib.hid hall
          have HCL := Lib.hid hcl
          have HB0 := Lib.hid hb0
          have HBR := Lib.hid hbr
          clear hall
          have hcell2 := (hcl ⟨b, o + n, none⟩).trans hcell
          by_cases hlt2 : k < L.length
          · have hcell3 := (hcl ⟨g, k, none⟩).trans (HG5.out k hlt2)
            obtain ⟨y, hy⟩ : ∃ y, y = L[k] := ⟨_, rfl⟩
            rw [← hy] at hcell3
            have HY := Lib.hid hy
            have HLS := Lib.hid (less_bs y x)
            clear hcl hb0 hbr hy
            go_wp2
            go_quiet (fail)
            go_wp2
            · have hb := ‹Op.bytesLess (bs y).toList x.toList = true›
              rw [HLS.out, decide_eq_true_eq] at hb
              refine ⟨⟨k + 1, by omega, by go_num, ?_, fun p => (show (wr.drewN nq).cell? p = wr.cell? p from rfl).trans (HCL.out p), hws, below_drewN HBR.out _, below_drewN HB0.out _⟩, by simp [intOf]; omega⟩
              intro j hj hjl
              by_cases hjk : j = k
              · subst hjk
                rw [← HY.out]
                exact hb
              · exact HALL.out j (by omega) hjl
            · have hb := ‹Op.bytesLess (bs y).toList x.toList = false›
              rw [HLS.out, decide_eq_false_iff_not] at hb
              have HNB := Lib.hid hb
              clear hb
              have HEQ := Lib.hid (beq_bs y x)
              obtain ⟨W1, hW1⟩ : ∃ W1, wr.drewN nq = W1 := ⟨_, rfl⟩
              have hc1 : W1.cell? ⟨b, o + n, none⟩ = some (.string x) := by rw [← hW1]; exact hcell2
              have hc2 : W1.cell? ⟨g, k, none⟩ = some (.string (bs y)) := by rw [← hW1]; exact hcell3
              have HCL1 := Lib.hid (show ∀ p : Addr, W1.cell? p = W0.cell? p by rw [← hW1]; exact HCL.out)
              have hws1 : W0.heap.size ≤ W1.heap.size := by rw [← hW1]; exact Nat.le_of_eq hws.symm
              have HBR1 := Lib.hid (show Below w.heap.size w W1 by rw [← hW1]; exact below_drewN HBR.out _)
              have HB1 := Lib.hid (show Below W0.heap.size W0 W1 by rw [← hW1]; exact below_drewN HB0.out _)
              rw [hW1]
              clear hW1 hcell2 hcell3 hws HBR HB0 HCL
              go_wp2
              go_quiet (fail)
              go_wp2
              · have hb := ‹((bs y).toList == x.toList) = true›
                rw [HEQ.out, decide_eq_true_eq] at hb
                have hins : GM.ins x.data.toList L = L := GM.ins_same _ _ k hlt2 HALL.out (by rw [← HY.out]; exact hb)
                refine ⟨⟨n + 1, L, by omega, by go_num, by omega, by rw [HT.out, hins], owns_below HW.out (below_drewN HB1.out _) hsz, .inr h0, below_drewN HBR1.out _⟩, by simp [intOf]; omega⟩
              · have hb := ‹((bs y).toList == x.toList) = false›
                rw [HEQ.out, decide_eq_false_iff_not] at hb
                have hins : GM.ins x.data.toList L = L.take k ++ [x.data.toList] ++ L.drop k := GM.ins_mid _ _ k hlt2 HALL.out (by rw [← HY.out]; exact HNB.out) (by rw [← HY.out]; exact hb)
                have HINS := Lib.hid hins
                clear hins hb
                obtain ⟨W2, hW2⟩ : ∃ W2, W1.drewN nq = W2 := ⟨_, rfl⟩
                have hc3 : W2.cell? ⟨b, o + n, none⟩ = some (.string x) := by rw [← hW2]; exact hc1
                have hws2 : W0.heap.size ≤ W2.heap.size := by rw [← hW2]; exact hws1
                have HBR2 := Lib.hid (show Below w.heap.size w W2 by rw [← hW2]; exact below_drewN HBR1.out _)
                have HC2 := Lib.hid (show ∀ j, ∀ hj : j < L.length, W2.cell? ⟨g, j, none⟩ = some (.string (bs L[j])) by rw [← hW2]; exact fun j hj => (HCL1.out _).trans (HG5.out j hj))
                rw [hW2]
                clear hW2 hc1 hc2 hws1 HBR1 HB1 HCL1
                have hbW : b < W2.heap.size := by omega
                have hgW : g < W2.heap.size := by omega
                have hX1 := texts_front (B := W2.heap.size) (cap := cap) (k := k) hgW hg1 (by unfold maxLen; omega) HC2.out (by omega)
                obtain ⟨A, hA, hX3⟩ := texts_back (B := W2.heap.size) (cap := cap) (k := k) hgW hg1 (by unfold maxLen; omega) HC2.out (by omega)
                have HX1 := Lib.hid hX1
                have HX3 := Lib.hid hX3
                clear hX1 hX3
                have hl1 : ((L.take k).map bs).length + ((L.drop k).map bs).length ≤ 950 := by rw [List.length_map, List.length_map, List.length_take, List.length_drop]; omega
                have HL1 := Lib.hid hl1
                clear hl1
                have hkc : k ≤ cap := by omega
                go_region_law
                  (first
                    | (refine step_append_texts ?g1 (.const (.slice none 0 0)) (.tmp 46) ?g2 W2.heap.size ?g3 (.slice none 0 0) [] ?g4 (World.ownsRow_nil _ _ _ _) W2.heap.size _ ((L.take k).map bs) ?g5 (HX1.out.keep ?g7) (proper_some _ _ _) ?g6 ?_
                       case g2 => rfl
                       case g1 => rfl
                       case g3 => first | exact Nat.le_refl _ | (simp; done) | (simp; omega)
                       case g4 => rfl
                       case g5 => simp [Act.eval, Act.put]
                       case g6 => first | (simp; done) | (simp; omega)
                       case g7 => repeat (first | exact Below.refl _ _ | refine below_drew ?_ | refine Below.alloc ?_ (by first | exact Nat.le_refl _ | (simp; done) | (simp; omega)) _)
                       intro v1 w3 own1 grow1
                       have F1 : Below W2.heap.size W2 w3 := Below.trans (by repeat (first | exact Below.refl _ _ | refine below_drew ?_ | refine Below.alloc ?_ (by first | exact Nat.le_refl _ | (simp; done) | (simp; omega)) _)) (below_none grow1 (by first | exact Nat.le_refl _ | (simp; done) | (simp; omega)) (fun q hq => by cases hq))
                       have hsz3 : W2.heap.size ≤ w3.heap.size := F1.size
                       have hkw := (bcell (below_none grow1 (Nat.le_refl _) (fun q hq => by cases hq))).1
                       have hcw : w3.cell? ⟨b, o + n, none⟩ = some (.string x) := (F1.cell (p := ⟨b, o + n, none⟩) hbW).trans hc3)
                    | (refine step_append_texts ?g1 (.tmp 47) (.tmp 52) ?g2 W2.heap.size ?g3 v1 ([] ++ ((L.take k).map bs)) ?g4 ?g8 _ _ [x] ?g5 (texts_one (n := w3.heap.size) ?g7) (proper_some _ _ _) ?g6 ?_
                       case g2 => rfl
                       case g1 => rfl
                       case g3 => first | exact hsz3 | (simp; omega)
                       case g4 => simp [Act.eval]
                       case g5 => simp [Act.eval]
                       case g6 => first | (simp; done) | (simp; omega)
                       case g7 => first | (simp; done) | (rw [hcw]; simp)
                       case g8 => first | exact own1 | exact own1.alloc _ | exact (own1.alloc _).alloc _
                       intro v2 w5 own2 grow2
                       have F2 : Below W2.heap.size W2 w5 := Below.trans (Below.trans F1 (by repeat (first | exact Below.refl _ _ | refine below_drew ?_ | refine Below.alloc ?_ (by first | omega | (simp; omega)) _))) (below_none grow2 (by first | exact hsz3 | (simp; omega)) (fun q hq => (owns_at own1 hq).1))
                       have hsz5 : W2.heap.size ≤ w5.heap.size := F2.size)
                    | (refine step_append_texts ?g1 (.tmp 47) (.tmp 52) ?g2 W2.heap.size ?g3 v1 ([] ++ ((L.take k).map bs)) ?g4 ?g8 _ _ [x] ?g5 (texts_one (n := W2.heap.size) ?g7) (proper_some _ _ _) ?g6 ?_
                       case g2 => rfl
                       case g1 => rfl
                       case g3 => first | exact hsz3 | (simp; omega)
                       case g4 => simp [Act.eval]
                       case g5 => simp [Act.eval]
                       case g6 => first | (simp; done) | (simp; omega)
                       case g7 => rw [hkw _ _ (by simp)]; simp
                       case g8 => first | exact own1 | exact own1.alloc _ | exact (own1.alloc _).alloc _
                       intro v2 w5 own2 grow2
                       have F2 : Below W2.heap.size W2 w5 := Below.trans (Below.trans F1 (by repeat (first | exact Below.refl _ _ | refine below_drew ?_ | refine Below.alloc ?_ (by first | omega | (simp; omega)) _))) (below_none grow2 (by first | exact hsz3 | (simp; omega)) (fun q hq => (owns_at own1 hq).1))
                       have hsz5 : W2.heap.size ≤ w5.heap.size := F2.size)
                    | (refine step_append_texts ?g1 (.tmp 53) (.tmp 56) ?g2 W2.heap.size ?g3 v2 ([] ++ ((L.take k).map bs) ++ [x]) ?g4 ?g8 _ _ ((L.drop k).map bs) ?g5 (HX3.out.keep F2) (proper_some _ _ _) ?g6 ?_
                       case g2 => rfl
                       case g1 => rfl
                       case g3 => first | exact hsz5 | (simp; omega)
                       case g4 => simp [Act.eval]
                       case g5 => simp [Act.eval]
                       case g6 => first | (simp; done) | (simp; omega)
                       case g8 => first | exact own2 | exact own2.alloc _
                       intro v3 w7 own3 grow3
                       have F3 : Below W2.heap.size W2 w7 := Below.trans F2 (below_none grow3 hsz5 (fun q hq => (owns_at own2 hq).1))))
                all_goals
                  have hof := owns_of_bs own3
                  have HOF := Lib.hid hof
                  clear hof own1 own2 own3 hcw hkw hsz3 hsz5 grow1 grow2 grow3
                  go_wp2
                  have hw2 : w.heap.size ≤ W2.heap.size := HBR2.out.size
                  have hmap : (([] ++ (L.take k).map bs ++ [x]) ++ (L.drop k).map bs).map (fun s : ByteArray => s.data.toList) = L.take k ++ [x.data.toList] ++ L.drop k := by
                    rw [List.nil_append, List.map_append, List.map_append, map_bs, map_bs]
                    rfl
                  have hfin := HOF.out
                  rw [hmap] at hfin
                  refine ⟨⟨n + 1, L.take k ++ [x.data.toList] ++ L.drop k, by omega, by go_num, by simp; omega, by rw [HT.out, HINS.out], ownsRow_base_a hfin hw2, .inr (by simp), HBR2.out.trans (F3.mono hw2)⟩, by simp [intOf]; omega⟩
          · have hge : L.length ≤ k := by omega
            have hins : GM.ins x.data.toList L = L.take k ++ [x.data.toList] ++ L.drop k := by
              rw [List.take_of_length_le hge, List.drop_eq_nil_of_le hge, List.append_nil]
              exact GM.ins_end _ _ (fun j hj => HALL.out j (by omega) hj)
            have HINS := Lib.hid hins
            clear hins hcl hb0 hbr
            go_wp2
            have hnk : ¬ ((k : Int) < (L.length : Int)) := by omega
            go_quiet (fail)
            obtain ⟨W1, hW1⟩ : ∃ W1, wr.drewN nq = W1 := ⟨_, rfl⟩
            have hc1 : W1.cell? ⟨b, o + n, none⟩ = some (.string x) := by rw [← hW1]; exact hcell2
            have HCL1 := Lib.hid (show ∀ p : Addr, W1.cell? p = W0.cell? p by rw [← hW1]; exact HCL.out)
            have hws1 : W0.heap.size ≤ W1.heap.size := by rw [← hW1]; exact Nat.le_of_eq hws.symm
            have HBR1 := Lib.hid (show Below w.heap.size w W1 by rw [← hW1]; exact below_drewN HBR.out _)
            rw [hW1]
            clear hW1 hcell2 hws HBR HB0 HCL
            go_wp2
            go_quiet (fail)
            go_wp2
            obtain ⟨W2, hW2⟩ : ∃ W2, W1.drewN nq = W2 := ⟨_, rfl⟩
            have hc3 : W2.cell? ⟨b, o + n, none⟩ = some (.string x) := by rw [← hW2]; exact hc1
            have hws2 : W0.heap.size ≤ W2.heap.size := by rw [← hW2]; exact hws1
            have HBR2 := Lib.hid (show Below w.heap.size w W2 by rw [← hW2]; exact below_drewN HBR1.out _)
            have HC2 := Lib.hid (show ∀ j, ∀ hj : j < L.length, W2.cell? ⟨g, j, none⟩ = some (.string (bs L[j])) by rw [← hW2]; exact fun j hj => (HCL1.out _).trans (HG5.out j hj))
            rw [hW2]
            clear hW2 hc1 hws1 HBR1 HCL1
            have hbW : b < W2.heap.size := by omega
            have hgW : g < W2.heap.size := by omega
            have hX1 := texts_front (B := W2.heap.size) (cap := cap) (k := k) hgW hg1 (by unfold maxLen; omega) HC2.out (by omega)
            obtain ⟨A, hA, hX3⟩ := texts_back (B := W2.heap.size) (cap := cap) (k := k) hgW hg1 (by unfold maxLen; omega) HC2.out (by omega)
            have HX1 := Lib.hid hX1
            have HX3 := Lib.hid hX3
            clear hX1 hX3
            have hl1 : ((L.take k).map bs).length + ((L.drop k).map bs).length ≤ 950 := by rw [List.length_map, List.length_map, List.length_take, List.length_drop]; omega
            have HL1 := Lib.hid hl1
            clear hl1
            have hkc : k ≤ cap := by omega
            clear hge hlt2 hnk
            go_region_law
              (first
                | (refine step_append_texts ?g1 (.const (.slice none 0 0)) (.tmp 46) ?g2 W2.heap.size ?g3 (.slice none 0 0) [] ?g4 (World.ownsRow_nil _ _ _ _) W2.heap.size _ ((L.take k).map bs) ?g5 (HX1.out.keep ?g7) (proper_some _ _ _) ?g6 ?_
                   case g2 => rfl
                   case g1 => rfl
                   case g3 => first | exact Nat.le_refl _ | (simp; done) | (simp; omega)
                   case g4 => rfl
                   case g5 => simp [Act.eval, Act.put]
                   case g6 => first | (simp; done) | (simp; omega)
                   case g7 => repeat (first | exact Below.refl _ _ | refine below_drew ?_ | refine Below.alloc ?_ (by first | exact Nat.le_refl _ | (simp; done) | (simp; omega)) _)
                   intro v1 w3 own1 grow1
                   have F1 : Below W2.heap.size W2 w3 := Below.trans (by repeat (first | exact Below.refl _ _ | refine below_drew ?_ | refine Below.alloc ?_ (by first | exact Nat.le_refl _ | (simp; done) | (simp; omega)) _)) (below_none grow1 (by first | exact Nat.le_refl _ | (simp; done) | (simp; omega)) (fun q hq => by cases hq))
                   have hsz3 : W2.heap.size ≤ w3.heap.size := F1.size
                   have hkw := (bcell (below_none grow1 (Nat.le_refl _) (fun q hq => by cases hq))).1
                   have hcw : w3.cell? ⟨b, o + n, none⟩ = some (.string x) := (F1.cell (p := ⟨b, o + n, none⟩) hbW).trans hc3)
                | (refine step_append_texts ?g1 (.tmp 47) (.tmp 52) ?g2 W2.heap.size ?g3 v1 ([] ++ ((L.take k).map bs)) ?g4 ?g8 _ _ [x] ?g5 (texts_one (n := w3.heap.size) ?g7) (proper_some _ _ _) ?g6 ?_
                   case g2 => rfl
                   case g1 => rfl
                   case g3 => first | exact hsz3 | (simp; omega)
                   case g4 => simp [Act.eval]
                   case g5 => simp [Act.eval]
                   case g6 => first | (simp; done) | (simp; omega)
                   case g7 => first | (simp; done) | (rw [hcw]; simp)
                   case g8 => first | exact own1 | exact own1.alloc _ | exact (own1.alloc _).alloc _
                   intro v2 w5 own2 grow2
                   have F2 : Below W2.heap.size W2 w5 := Below.trans (Below.trans F1 (by repeat (first | exact Below.refl _ _ | refine below_drew ?_ | refine Below.alloc ?_ (by first | omega | (simp; omega)) _))) (below_none grow2 (by first | exact hsz3 | (simp; omega)) (fun q hq => (owns_at own1 hq).1))
                   have hsz5 : W2.heap.size ≤ w5.heap.size := F2.size)
                | (refine step_append_texts ?g1 (.tmp 47) (.tmp 52) ?g2 W2.heap.size ?g3 v1 ([] ++ ((L.take k).map bs)) ?g4 ?g8 _ _ [x] ?g5 (texts_one (n := W2.heap.size) ?g7) (proper_some _ _ _) ?g6 ?_
                   case g2 => rfl
                   case g1 => rfl
                   case g3 => first | exact hsz3 | (simp; omega)
                   case g4 => simp [Act.eval]
                   case g5 => simp [Act.eval]
                   case g6 => first | (simp; done) | (simp; omega)
                   case g7 => rw [hkw _ _ (by simp)]; simp
                   case g8 => first | exact own1 | exact own1.alloc _ | exact (own1.alloc _).alloc _
                   intro v2 w5 own2 grow2
                   have F2 : Below W2.heap.size W2 w5 := Below.trans (Below.trans F1 (by repeat (first | exact Below.refl _ _ | refine below_drew ?_ | refine Below.alloc ?_ (by first | omega | (simp; omega)) _))) (below_none grow2 (by first | exact hsz3 | (simp; omega)) (fun q hq => (owns_at own1 hq).1))
                   have hsz5 : W2.heap.size ≤ w5.heap.size := F2.size)
                | (refine step_append_texts ?g1 (.tmp 53) (.tmp 56) ?g2 W2.heap.size ?g3 v2 ([] ++ ((L.take k).map bs) ++ [x]) ?g4 ?g8 _ _ ((L.drop k).map bs) ?g5 (HX3.out.keep F2) (proper_some _ _ _) ?g6 ?_
                   case g2 => rfl
                   case g1 => rfl
                   case g3 => first | exact hsz5 | (simp; omega)
                   case g4 => simp [Act.eval]
                   case g5 => simp [Act.eval]
                   case g6 => first | (simp; done) | (simp; omega)
                   case g8 => first | exact own2 | exact own2.alloc _
                   intro v3 w7 own3 grow3
                   have F3 : Below W2.heap.size W2 w7 := Below.trans F2 (below_none grow3 hsz5 (fun q hq => (owns_at own2 hq).1))))
            all_goals
              have hof := owns_of_bs own3
              have HOF := Lib.hid hof
              clear hof own1 own2 own3 hcw hkw hsz3 hsz5 grow1 grow2 grow3
              go_wp2
              have hw2 : w.heap.size ≤ W2.heap.size := HBR2.out.size
              have hmap : (([] ++ (L.take k).map bs ++ [x]) ++ (L.drop k).map bs).map (fun s : ByteArray => s.data.toList) = L.take k ++ [x.data.toList] ++ L.drop k := by
                rw [List.nil_append, List.map_append, List.map_append, map_bs, map_bs]
                rfl
              have hfin := HOF.out
              rw [hmap] at hfin
              refine ⟨⟨n + 1, L.take k ++ [x.data.toList] ++ L.drop k, by omega, by go_num, by simp; omega, by rw [HT.out, HINS.out], ownsRow_base_a hfin hw2, .inr (by simp), HBR2.out.trans (F3.mono hw2)⟩, by simp [intOf]; omega⟩
    · obtain rfl : n = xs.length := by omega
      have hL : L = GM.setL (xs.map (·.data.toList)) := by rw [HLE.out, List.take_of_length_le (Nat.le_refl _)]
      have HL := Lib.hid hL
      clear hL
      go_wp2
      go_ret
      have := HW.out
      rw [HL.out] at this
      exact ⟨_, rfl, this, hbw⟩
end Go.Proofs.YtjdjjehdognpiaaDoor
