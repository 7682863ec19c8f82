/- The deck of numbers that statements deal from: what its calls leave. -/
import Derived.Test.YtblkebjfnboclaaDoorTextRef3
import Derived.Outline
import Derived.RegionTactic
import Derived.ChangeAlike
import Derived.OpenShut
import Derived.Laws.BitsAllLaws
namespace Go.Proofs.YtblkebjfnboclaaDoor
open Go.RowKit
set_option maxRecDepth 100000

/-- A deck in block g: its list lies below. -/
def Deck (g : Nat) (w : World) : Prop := ∃ (A : Option Addr) (n c k : Nat) (st : Int),
  w.heap[g]? = some (.cells #[.slice A n c, .int .i64 k, .int .u64 st] 37 (0, 0)) ∧ k ≤ n ∧ n ≤ c ∧ c ≤ maxLen ∧ (0 ≤ st ∧ st < 18446744073709551616) ∧
  (∀ j, j < n → ∃ b o x, A = some ⟨b, o, none⟩ ∧ b < g ∧ w.cell? ⟨b, o + j, none⟩ = some (.int .i64 x) ∧ -9223372036854775808 ≤ x ∧ x ≤ 9223372036854775807)

theorem Deck.lt {g : Nat} {w : World} (h : Deck g w) : g < w.heap.size := by
  obtain ⟨A, n, c, k, st, hb, _⟩ := h
  exact (Array.getElem?_eq_some_iff.1 hb).1
theorem Deck.keep {g : Nat} {w w' : World} (h : Deck g w) (hb : ∀ j, j ≤ g → w'.heap[j]? = w.heap[j]?) : Deck g w' := by
  obtain ⟨A, n, c, k, st, h0, h1, h2, h3, h4, h5⟩ := h
  refine ⟨A, n, c, k, st, (hb g (Nat.le_refl _)).trans h0, h1, h2, h3, h4, fun j hj => ?_⟩
  obtain ⟨b, o, x, ha, hlt, hc, hx⟩ := h5 j hj
  exact ⟨b, o, x, ha, hlt, (World.cell?_of_block (a := ⟨b, o + j, none⟩) (w := w) (w' := w') (hb b (by omega))).trans hc, hx⟩
theorem Deck.below {g B : Nat} {w w' : World} (h : Deck g w) (hb : Below B w w') (hg : g < B) : Deck g w' := h.keep fun j hj => hb.block j (by omega)
theorem Deck.alloc {g : Nat} {w : World} (h : Deck g w) (o : Obj) : Deck g (w.alloc o) := h.below ((Below.refl _ w).alloc (Nat.le_refl _) o) h.lt
theorem Deck.drewN {g : Nat} {w : World} (h : Deck g w) (n : Nat) : Deck g (w.drewN n) := h

theorem cells_set {w : World} {g : Nat} {cs : Array Value} {T : TypeId} (h : w.heap[g]? = some (.cells cs T (0, 0))) (i : Nat) (u : Value) : (w.setCell ⟨g, i, none⟩ u).heap[g]? = some (.cells (cs.setIfInBounds i u) T (0, 0)) := by
  simp [World.setCell, Array.getElem?_modify, h]
theorem grown_refl (w : World) (r : Option Nat) : w.grownBy w r := ⟨rfl, rfl, rfl, Nat.le_refl _, fun _ _ _ => rfl⟩
theorem grown_trans {a b c : World} {g : Nat} (h : a.grownBy b (some g)) (k : b.grownBy c (some g)) : a.grownBy c (some g) :=
  ⟨k.os.trans h.os, k.tape.trans h.tape, k.output.trans h.output, Nat.le_trans h.size k.size, fun i hi hn => (k.block i (Nat.lt_of_lt_of_le hi h.size) hn).trans (h.block i hi hn)⟩
theorem grown_set {a w : World} {g : Nat} (h : a.grownBy w (some g)) (o : Nat) (u : Value) : a.grownBy (w.setCell ⟨g, o, none⟩ u) (some g) :=
  ⟨h.os, h.tape, h.output, by simpa [World.setCell] using h.size, fun i hi hn => (Below.heap_setCell w ⟨g, o, none⟩ u i (fun e => hn (by rw [e]))).trans (h.block i hi hn)⟩
theorem grown_drewN {a w : World} {r : Option Nat} (h : a.grownBy w r) (n : Nat) : a.grownBy (w.drewN n) r := ⟨h.os, h.tape, h.output, h.size, h.block⟩
theorem grown_alloc {a w : World} {r : Option Nat} (h : a.grownBy w r) (o : Obj) : a.grownBy (w.alloc o) r :=
  ⟨h.os, h.tape, h.output, Nat.le_trans h.size (by simp), fun i hi hn => (Below.heap_alloc w o i (Nat.lt_of_lt_of_le hi h.size)).trans (h.block i hi hn)⟩
theorem grown_below {a w w' : World} {g B : Nat} (h : a.grownBy w (some g)) (hb : Below B w w') (hB : a.heap.size ≤ B) : a.grownBy w' (some g) :=
  ⟨hb.os.trans h.os, hb.tape.trans h.tape, hb.output.trans h.output, Nat.le_trans h.size hb.size, fun i hi hn => (hb.block i (by omega)).trans (h.block i hi hn)⟩
theorem below_of_grown {a w : World} {g B : Nat} (h : a.grownBy w (some g)) (hB : B ≤ g) (ha : B ≤ a.heap.size) : Below B a w :=
  ⟨h.os, h.tape, h.output, h.size, fun k hk => h.block k (by omega) (fun e => by injection e; omega)⟩

/-- A deck whose numbers have turned. -/
theorem deck_of {g : Nat} {w w' : World} {A : Option Addr} {n c k : Nat} {st : Int} (hg : w.grownBy w' (some g))
    (h0 : w'.heap[g]? = some (.cells #[.slice A n c, .int .i64 k, .int .u64 st] 37 (0, 0))) (hg0 : g < w.heap.size) (h1 : k ≤ n) (h2 : n ≤ c) (h3 : c ≤ maxLen) (h4 : 0 ≤ st ∧ st < 18446744073709551616)
    (h5 : ∀ j, j < n → ∃ b o x, A = some ⟨b, o, none⟩ ∧ b < g ∧ w.cell? ⟨b, o + j, none⟩ = some (.int .i64 x) ∧ -9223372036854775808 ≤ x ∧ x ≤ 9223372036854775807) : Deck g w' :=
  ⟨A, n, c, k, st, h0, h1, h2, h3, h4, fun j hj => by
    obtain ⟨b, o, x, ha, hlt, hc, hx⟩ := h5 j hj
    exact ⟨b, o, x, ha, hlt, (World.cell?_of_block (a := ⟨b, o + j, none⟩) (w := w) (w' := w') (hg.block b (by omega) (fun e => by injection e; omega))).trans hc, hx⟩⟩

theorem bits_lt (op : BinOp) (x y : Int) : 0 ≤ bits op .u64 x y ∧ bits op .u64 x y < 18446744073709551616 := by
  have := bounds_u64 (wf_bits op .u64 x y)
  omega
theorem wrap_lt (x : Int) : 0 ≤ IntKind.u64.wrap x ∧ IntKind.u64.wrap x < 18446744073709551616 := by
  have := bounds_u64 (Go.wf_wrap .u64 x)
  omega

set_option maxHeartbeats 1000000 in
theorem Word_any (g : Nat) (w : World) (h : Deck g w) :
    Calls Tryd.prog 34 #[.pointer (some ⟨g, 0, none⟩)] w fun e w' => ∃ x : Int, e = .returned (.int .u64 x) ∧ (0 ≤ x ∧ x < 18446744073709551616) ∧ Deck g w' ∧ w.grownBy w' (some g) := by
  have hlt0 := h.lt
  obtain ⟨A, n, c, k, st, hb, hk, hn, hc, hst, hl⟩ := h
  have c0 : w.cell? ⟨g, 0, none⟩ = some (.slice A n c) := by rw [Lib.cell_of_heap hb]; rfl
  have c1 : w.cell? ⟨g, 1, none⟩ = some (.int .i64 k) := by rw [Lib.cell_of_heap hb]; rfl
  have c2 : w.cell? ⟨g, 2, none⟩ = some (.int .u64 st) := by rw [Lib.cell_of_heap hb]; rfl
  have f1 : w.frozen? ⟨g, 1, none⟩ = false := Lib.frozen_of_heap hb 1
  have f2 : w.frozen? ⟨g, 2, none⟩ = false := Lib.frozen_of_heap hb 2
  have HL := Lib.hid hl
  clear hl
  have HC := Lib.hid hc
  unfold maxLen at hc
  have HB := Lib.hid hb
  clear hb
  by_cases hlt : k < n
  · obtain ⟨b, o, x, rfl, hbg, hx, hx1, hx2⟩ := HL.out k hlt
    have hne : b ≠ g := by omega
    go_enter Tryd.func34, Tryd.ntmps34
    go_wp2
    go_quiet (fail)
    go_wp2
    go_quiet (fail)
    go_wp2
    go_quiet (fail)
    go_wp2
    go_ret
    have hg1 := fun (a c : Nat) (u v : Value) => grown_drewN (grown_set (grown_set (grown_drewN (grown_refl w (some g)) a) 1 u) 2 v) c
    exact ⟨_, rfl, bits_lt _ _ _, deck_of (k := k + 1) (hg1 _ _ _ _) (cells_set (w := World.setCell (World.drewN w _) _ _) (cells_set (w := World.drewN w _) HB.out 1 _) 2 _) hlt0 hlt hn HC.out (wrap_lt _) HL.out, hg1 _ _ _ _⟩
  · go_enter Tryd.func34, Tryd.ntmps34
    go_wp2
    go_quiet (fail)
    go_wp2
    go_quiet (fail)
    go_wp2
    go_ret
    refine ⟨_, rfl, bits_lt _ _ _, deck_of (grown_drewN (grown_set (grown_drewN (grown_refl w (some g)) _) 2 _) _) (cells_set (w := World.drewN w _) HB.out 2 _) hlt0 hk hn HC.out (wrap_lt _) HL.out, grown_drewN (grown_set (grown_drewN (grown_refl w (some g)) _) 2 _) _⟩
set_option maxHeartbeats 400000 in
theorem Next_any (g : Nat) (w : World) (h : Deck g w) (n : Int) (h1 : 1 ≤ n) (h2 : n ≤ 1000000) :
    Calls Tryd.prog 24 #[.pointer (some ⟨g, 0, none⟩), .int .i64 n] w fun e w' => ∃ r : Int, e = .returned (.int .i64 r) ∧ (0 ≤ r ∧ r < n) ∧ Deck g w' ∧ w.grownBy w' (some g) := by
  have HD := Lib.hid h
  clear h
  go_enter Tryd.func24, Tryd.ntmps24
  go_wp2_with fail
  refine (Word_any g w HD.out).mono ?_
  rintro e w1 ⟨x, rfl, ⟨hx0, hx1⟩, hd, hg⟩
  go_wp2
  go_ret
  exact ⟨_, rfl, ⟨Int.emod_nonneg _ (by omega), Int.emod_lt_of_pos _ (by omega)⟩, hd, hg⟩

set_option maxHeartbeats 400000 in
theorem One_any (g : Nat) (w : World) (h : Deck g w) (n : Int) (h1 : 1 ≤ n) (h2 : n ≤ 1000000) :
    Calls Tryd.prog 23 #[.pointer (some ⟨g, 0, none⟩), .int .i64 n] w fun e w' => ∃ b : Bool, e = .returned (.bool b) ∧ Deck g w' ∧ w.grownBy w' (some g) := by
  have HD := Lib.hid h
  clear h
  go_enter Tryd.func23, Tryd.ntmps23
  go_wp2_with fail
  refine (Next_any g w HD.out n h1 h2).mono ?_
  rintro e w1 ⟨x, rfl, ⟨hx0, hx1⟩, hd, hg⟩
  go_wp2
  go_ret
  exact ⟨_, rfl, hd, hg⟩

theorem Deck.ne {g b o : Nat} {w : World} {s : ByteArray} (h : Deck g w) (hc : w.cell? ⟨b, o, none⟩ = some (.string s)) : b ≠ g := by
  rintro rfl
  obtain ⟨A, n, c, k, st, hb, _⟩ := h
  rw [Lib.cell_of_heap hb] at hc
  match o, hc with
  | 0, hc => simp at hc
  | 1, hc => simp at hc
  | 2, hc => simp at hc
  | n + 3, hc => simp at hc
theorem IsTexts.grown {B g : Nat} {w w' : World} {v : Value} {xs : List ByteArray} (h : IsTexts B w v xs) (hd : Deck g w) (hb : w.grownBy w' (some g)) (hB : B ≤ w.heap.size) : IsTexts B w' v xs := by
  obtain ⟨a, c, hv, h1, h2, h3⟩ := h
  refine ⟨a, c, hv, h1, h2, ?_⟩
  rcases h3 with h3 | ⟨b, o, ha, hlt, hc⟩
  · exact .inl h3
  · refine .inr ⟨b, o, ha, hlt, fun j x hx => ?_⟩
    have hne := hd.ne (hc j x hx)
    exact (World.cell?_of_block (a := ⟨b, o + j, none⟩) (w := w) (w' := w') (hb.block b (by omega) (fun e => hne (by injection e)))).trans (hc j x hx)
/-- A slice of texts that is written out. -/
theorem texts_lit (w : World) (xs : List ByteArray) (h : xs.length ≤ maxLen) : IsTexts (w.heap.size + 1) (w.alloc (.cells (xs.map Value.string).toArray 9)) (.slice (some ⟨w.heap.size, 0, none⟩) xs.length xs.length) xs := by
  refine ⟨_, _, rfl, Nat.le_refl _, h, .inr ⟨_, _, rfl, Nat.lt_succ_self _, fun j x hx => ?_⟩⟩
  rw [cell_of_row _ _ _ _ _ _ (heap_alloc_new w _)]
  simp [hx]

set_option maxHeartbeats 400000 in
theorem Pick_any (g : Nat) (B : Nat) (v : Value) (xs : List ByteArray) (w : World) (hx : IsTexts B w v xs) (h : Deck g w) (hB : B ≤ w.heap.size) (hne : xs ≠ []) (hl : xs.length ≤ 1000) :
    Calls Tryd.prog 21 #[.pointer (some ⟨g, 0, none⟩), v] w fun e w' => ∃ s ∈ xs, e = .returned (.string s) ∧ Deck g w' ∧ w.grownBy w' (some g) := by
  obtain ⟨b, o, c, rfl, hc1, hc2, hlt, hc⟩ := hx.at_ hne
  have hpos : 0 < xs.length := List.length_pos_iff.2 hne
  have hbg : b ≠ g := h.ne (hc 0 hpos)
  have HC := Lib.hid hc
  clear hc hx
  have HD := Lib.hid h
  clear h
  unfold maxLen at hc2
  go_enter Tryd.func21, Tryd.ntmps21
  go_wp2_with fail
  refine (Next_any g w HD.out _ (by omega) (by omega)).mono ?_
  rintro e w1 ⟨x, rfl, ⟨hx0, hx1⟩, hd, hg⟩
  obtain ⟨j, rfl⟩ := Int.eq_ofNat_of_zero_le hx0
  have hj : j < xs.length := by omega
  have hcell : w1.cell? ⟨b, o + j, none⟩ = some (.string xs[j]) := (World.cell?_of_block (a := ⟨b, o + j, none⟩) (w := w) (w' := w1) (hg.block b (by omega) (fun e => hbg (by injection e)))).trans (HC.out j hj)
  go_wp2
  go_ret
  exact ⟨xs[j], List.getElem_mem hj, rfl, hd, hg⟩

/-- One to eight letters from a to z. -/
def lowB (s : ByteArray) : Bool := decide (1 ≤ s.data.toList.length) && decide (s.data.toList.length ≤ 8) && s.data.toList.all TM.lower

def givenL : List ByteArray := [⟨#[114, 111, 98, 101, 114, 116]⟩, ⟨#[98, 111, 98]⟩, ⟨#[97, 110, 110]⟩, ⟨#[97, 110, 110, 97]⟩, ⟨#[114, 117, 112, 101, 114, 116]⟩, ⟨#[109, 97, 114, 105, 97]⟩, ⟨#[112, 101, 116, 101, 114]⟩, ⟨#[100, 114]⟩, ⟨#[106, 111]⟩, ⟨#[97, 115, 104, 99, 114, 97, 102, 116]⟩, ⟨#[108, 105]⟩]
def familyL : List ByteArray := [⟨#[115, 109, 105, 116, 104]⟩, ⟨#[115, 99, 104, 109, 105, 100, 116]⟩, ⟨#[109, 105, 108, 108, 101, 114]⟩, ⟨#[111, 110, 101, 105, 108, 108]⟩, ⟨#[115, 116, 114, 97, 117, 115, 115]⟩, ⟨#[118, 97, 110]⟩, ⟨#[109, 97, 105, 110]⟩, ⟨#[115, 116]⟩, ⟨#[115, 116, 114, 101, 101, 116]⟩, ⟨#[114, 100]⟩, ⟨#[112, 97, 114, 107]⟩]
theorem given_low : ∀ s ∈ givenL, lowB s = true := by decide
theorem family_low : ∀ s ∈ familyL, lowB s = true := by decide

set_option maxHeartbeats 400000 in
theorem given_any (w : World) :
    Calls Tryd.prog 25 #[] w fun e w' => e = .returned (.slice (some ⟨w.heap.size, 0, none⟩) givenL.length givenL.length) ∧ w.alloc (.cells (givenL.map Value.string).toArray 9) = w' := by
  go_enter Tryd.func25, Tryd.ntmps25
  go_wp2
  go_ret
  exact ⟨rfl, rfl⟩
set_option maxHeartbeats 400000 in
theorem family_any (w : World) :
    Calls Tryd.prog 26 #[] w fun e w' => e = .returned (.slice (some ⟨w.heap.size, 0, none⟩) familyL.length familyL.length) ∧ w.alloc (.cells (familyL.map Value.string).toArray 9) = w' := by
  go_enter Tryd.func26, Tryd.ntmps26
  go_wp2
  go_ret
  exact ⟨rfl, rfl⟩

theorem low_snoc (so : ByteArray) (c : UInt8) (j : Nat) (hj : j < 26) (hn : c.toNat = 97 + j) (h : so.data.toList.all TM.lower = true) : (so ++ ⟨#[c]⟩ : ByteArray).data.toList.all TM.lower = true := by
  rw [data_add, List.all_append, h]
  have hl : TM.lower c = true := by
    unfold TM.lower
    rw [hn]
    simp
    omega
  show (true && ([c] : List UInt8).all TM.lower) = true
  simp only [List.all_cons, List.all_nil, hl, Bool.and_self]

set_option maxHeartbeats 2000000 in
theorem Token_any (g : Nat) (w : World) (h : Deck g w) :
    Calls Tryd.prog 12 #[.pointer (some ⟨g, 0, none⟩)] w fun e w' => ∃ s, e = .returned (.string s) ∧ lowB s = true ∧ Deck g w' ∧ w.grownBy w' (some g) := by
  have HD := Lib.hid h
  clear h
  go_enter Tryd.func12, Tryd.ntmps12
  go_wp2_with fail
  refine (One_any g w HD.out 6 (by omega) (by omega)).mono ?_
  rintro e w1 ⟨b1, rfl, hd1, hg1⟩
  cases b1
  · go_wp2_with fail
    refine (One_any g w1 hd1 2 (by omega) (by omega)).mono ?_
    rintro e w2 ⟨b2, rfl, hd2, hg2⟩
    have hg12 := grown_trans hg1 hg2
    cases b2
    · go_wp2_with fail
      refine (family_any w2).mono ?_
      rintro e w3 ⟨rfl, rfl⟩
      go_wp2_with fail
      refine (family_any _).mono ?_
      rintro e w3 ⟨rfl, rfl⟩
      go_wp2_with fail
      refine (Next_any g _ ((hd2.alloc _).alloc _) 11 (by omega) (by omega)).mono ?_
      rintro e w3 ⟨x, rfl, ⟨hx0, hx1⟩, hd3, hg3⟩
      obtain ⟨j, rfl⟩ := Int.eq_ofNat_of_zero_le hx0
      have hj : j < familyL.length := by show j < 11; omega
      have hcell : w3.cell? ⟨w2.heap.size, 0 + j, none⟩ = some (.string familyL[j]) := by
        have ht := ((texts_lit w2 familyL (by decide)).keep ((Below.refl _ _).alloc (by simp) (.cells (familyL.map Value.string).toArray 9))).grown ((hd2.alloc _).alloc _) hg3 (by simp)
        obtain ⟨b, o, c, hv, _, _, _, hc⟩ := ht.at_ (by decide)
        injection hv with hv _ _
        injection hv with hv
        injection hv with hb ho _
        subst hb ho
        exact hc j hj
      rw [Nat.zero_add] at hcell
      have hlow := family_low familyL[j] (List.getElem_mem hj)
      have HLow := Lib.hid hlow
      clear hlow
      generalize familyL[j] = F at *
      go_wp2
      go_ret
      exact ⟨F, rfl, HLow.out, hd3, grown_trans (grown_alloc (grown_alloc hg12 _) _) hg3⟩
    · go_wp2_with fail
      refine (given_any w2).mono ?_
      rintro e w3 ⟨rfl, rfl⟩
      go_wp2_with fail
      refine (given_any _).mono ?_
      rintro e w3 ⟨rfl, rfl⟩
      go_wp2_with fail
      refine (Next_any g _ ((hd2.alloc _).alloc _) 11 (by omega) (by omega)).mono ?_
      rintro e w3 ⟨x, rfl, ⟨hx0, hx1⟩, hd3, hg3⟩
      obtain ⟨j, rfl⟩ := Int.eq_ofNat_of_zero_le hx0
      have hj : j < givenL.length := by show j < 11; omega
      have hcell : w3.cell? ⟨w2.heap.size, 0 + j, none⟩ = some (.string givenL[j]) := by
        have ht := ((texts_lit w2 givenL (by decide)).keep ((Below.refl _ _).alloc (by simp) (.cells (givenL.map Value.string).toArray 9))).grown ((hd2.alloc _).alloc _) hg3 (by simp)
        obtain ⟨b, o, c, hv, _, _, _, hc⟩ := ht.at_ (by decide)
        injection hv with hv _ _
        injection hv with hv
        injection hv with hb ho _
        subst hb ho
        exact hc j hj
      rw [Nat.zero_add] at hcell
      have hlow := given_low givenL[j] (List.getElem_mem hj)
      have HLow := Lib.hid hlow
      clear hlow
      generalize givenL[j] = F at *
      go_wp2
      go_ret
      exact ⟨F, rfl, HLow.out, hd3, grown_trans (grown_alloc (grown_alloc hg12 _) _) hg3⟩
  · go_wp2_with fail
    refine (Next_any g w1 hd1 5 (by omega) (by omega)).mono ?_
    rintro e w2 ⟨x, rfl, ⟨hx0, hx1⟩, hd2, hg2⟩
    obtain ⟨m, rfl⟩ := Int.eq_ofNat_of_zero_le hx0
    have hm : m < 5 := by omega
    have hg12 := grown_trans hg1 hg2
    go_wp2
    go_loopw [3, 4] (fun o i wr => ∃ (k : Nat) (so : ByteArray), so.size + k = m + 1 ∧ i = .int .i64 k ∧ o = .string so ∧ so.data.toList.all TM.lower = true ∧ Deck g wr ∧ w.grownBy wr (some g)) (fun _ i _ => (intOf i).toNat)
    case atStart => exact ⟨m + 1, ⟨#[]⟩, by simp [ByteArray.size], by go_num, rfl, by simp, hd2, hg12⟩
    case round =>
      obtain ⟨k, so, hk, rfl, rfl, hall, hd, hg⟩ := hrel
      have HA := Lib.hid hall
      clear hall
      have hso : so.size + k ≤ 5 := by omega
      have HK := Lib.hid hk
      clear hk
      by_cases h0 : 0 < k
      · go_wp2_with fail
        refine (Next_any g wr hd 26 (by omega) (by omega)).mono ?_
        rintro e w3 ⟨y, rfl, ⟨hy0, hy1⟩, hd3, hg3⟩
        obtain ⟨j, rfl⟩ := Int.eq_ofNat_of_zero_le hy0
        have hj : j < 26 := by omega
        obtain ⟨c, hc⟩ : ∃ c : UInt8, c.toNat = 97 + j := ⟨UInt8.ofNat (97 + j), by rw [UInt8.toNat_ofNat']; omega⟩
        have k1 : ∀ W : World, _ := fun W => conv1 W c (97 + (j : Int)) (by omega)
        have HCn := Lib.hid hc
        clear hc
        go_wp2
        refine ⟨⟨k - 1, _, ?_, by go_num, rfl, low_snoc so c j hj HCn.out HA.out, hd3.alloc _, grown_alloc (grown_trans hg hg3) _⟩, by simp [intOf]; omega⟩
        have := HK.out
        rw [size_add]
        show so.size + 1 + (k - 1) = _
        omega
      · go_wp2
        go_ret
        refine ⟨so, rfl, ?_, hd, hg⟩
        have h1 := HK.out
        have h2 : so.data.toList.length = so.size := by simp
        unfold lowB
        rw [HA.out, h2]
        simp
        omega
end Go.Proofs.YtblkebjfnboclaaDoor
