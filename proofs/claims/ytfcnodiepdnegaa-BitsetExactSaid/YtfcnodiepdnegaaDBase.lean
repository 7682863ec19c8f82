/- What layer 3 wants of the layers before it, where the seat has no text of theirs: texts, the deck of numbers, slices of integers. (Where a seat has layer 1's texts, a text of this name that imports Awake and LawsA serves instead.) -/
import Derived.Test.YtfcnodiepdnegaaProg
import Derived.WalkKit
import Derived.WalkSpells
import Derived.WalkLawsBesides
import Derived.Lib.Hide
import Derived.Lib.Strings
import Derived.ShutString
import Derived.Deep.LoopGhost
import Derived.Deep.QuietTactic
import Derived.BigQuiet
import Derived.Outline
import Derived.RegionTactic
import Derived.ChangeAlike
import Derived.OpenShut
import Derived.Laws.BitsAllLaws
namespace Go.Proofs.Ytfcnodiepdnegaa
open Go.RowKit

theorem ret_bool {a b : Bool} (h : a = b) : Ending.returned (.bool a) = .returned (.bool b) := by rw [h]
theorem ret_str {a b : ByteArray} (h : a = b) : Ending.returned (.string a) = .returned (.string b) := by rw [h]
theorem drop_at (s : ByteArray) (k : Nat) (h : k < s.size) : s.data.toList.drop k = s[k] :: s.data.toList.drop (k + 1) := by
  rw [List.drop_eq_getElem_cons (by simpa using h)]; rfl
theorem drop_end (s : ByteArray) (k : Nat) (h : s.size ≤ k) : s.data.toList.drop k = [] := by
  rw [List.drop_eq_nil_iff]; simpa using h
theorem extract_list (s : ByteArray) (k : Nat) : (s.extract k s.size).data.toList = s.data.toList.drop k := by
  rw [Lib.extract_data, List.take_of_length_le (by simp)]
/-- A slice value that reads as a list of texts; all its cells lie below block B. -/
def IsTexts (B : Nat) (w : World) (v : Value) (xs : List ByteArray) : Prop :=
  ∃ (a : Option Addr) (c : Nat), v = .slice a xs.length c ∧ xs.length ≤ c ∧ c ≤ maxLen ∧ (xs = [] ∨ ∃ b o, a = some ⟨b, o, none⟩ ∧ b < B ∧ ∀ j x, xs[j]? = some x → w.cell? ⟨b, o + j, none⟩ = some (.string x))
theorem IsTexts.keep {B : Nat} {w w' : World} {v : Value} {xs : List ByteArray} (h : IsTexts B w v xs) (hb : Below B w w') : IsTexts B w' v xs := by
  obtain ⟨a, c, hv, h1, h2, h3⟩ := h
  refine ⟨a, c, hv, h1, h2, ?_⟩
  rcases h3 with h3 | ⟨b, o, ha, hlt, hc⟩
  · exact .inl h3
  · exact .inr ⟨b, o, ha, hlt, fun j x hx => (hb.cell (p := ⟨b, o + j, none⟩) hlt).trans (hc j x hx)⟩
theorem IsTexts.more {B B' : Nat} {w : World} {v : Value} {xs : List ByteArray} (h : IsTexts B w v xs) (hb : B ≤ B') : IsTexts B' w v xs := by
  obtain ⟨a, c, hv, h1, h2, h3⟩ := h
  refine ⟨a, c, hv, h1, h2, ?_⟩
  rcases h3 with h3 | ⟨b, o, ha, hlt, hc⟩
  · exact .inl h3
  · exact .inr ⟨b, o, ha, by omega, hc⟩
/-- The value of a list of bytes as Go's string. -/
def bs (l : List UInt8) : ByteArray := ⟨l.toArray⟩
theorem bs_list (s : ByteArray) : bs s.data.toList = s := rfl
theorem list_bs (l : List UInt8) : (bs l).data.toList = l := rfl
theorem data_add (a b : ByteArray) : (a ++ b).data.toList = a.data.toList ++ b.data.toList := by simp
theorem size_add (a b : ByteArray) : (a ++ b).size = a.size + b.size := by simp
theorem IsTexts.at_ {B : Nat} {w : World} {v : Value} {xs : List ByteArray} (h : IsTexts B w v xs) (hne : xs ≠ []) : ∃ b o c, v = .slice (some ⟨b, o, none⟩) xs.length c ∧ xs.length ≤ c ∧ c ≤ maxLen ∧ b < B ∧ ∀ k, ∀ hk : k < xs.length, w.cell? ⟨b, o + k, none⟩ = some (.string xs[k]) := by
  obtain ⟨a, c, hv, h1, h2, h3⟩ := h
  rcases h3 with h3 | ⟨b, o, ha, hlt, hc⟩
  · exact absurd h3 hne
  · subst ha
    exact ⟨b, o, c, hv, h1, h2, hlt, fun k hk => hc k _ (List.getElem?_eq_getElem hk)⟩
/-- A deck in block g: its list lies below. -/
def Deck (g : Nat) (w : World) : Prop := ∃ (A : Option Addr) (n c k : Nat) (st : Int),
  w.heap[g]? = some (.cells #[.slice A n c, .int .i64 k, .int .u64 st] 53 (0, 0)) ∧ k ≤ n ∧ n ≤ c ∧ c ≤ maxLen ∧ (0 ≤ st ∧ st < 18446744073709551616) ∧
  (∀ j, j < n → ∃ b o x, A = some ⟨b, o, none⟩ ∧ b < g ∧ w.cell? ⟨b, o + j, none⟩ = some (.int .i64 x) ∧ -9223372036854775808 ≤ x ∧ x ≤ 9223372036854775807)
theorem Deck.lt {g : Nat} {w : World} (h : Deck g w) : g < w.heap.size := by
  obtain ⟨A, n, c, k, st, hb, _⟩ := h
  exact (Array.getElem?_eq_some_iff.1 hb).1
theorem Deck.keep {g : Nat} {w w' : World} (h : Deck g w) (hb : ∀ j, j ≤ g → w'.heap[j]? = w.heap[j]?) : Deck g w' := by
  obtain ⟨A, n, c, k, st, h0, h1, h2, h3, h4, h5⟩ := h
  refine ⟨A, n, c, k, st, (hb g (Nat.le_refl _)).trans h0, h1, h2, h3, h4, fun j hj => ?_⟩
  obtain ⟨b, o, x, ha, hlt, hc, hx⟩ := h5 j hj
  exact ⟨b, o, x, ha, hlt, (World.cell?_of_block (a := ⟨b, o + j, none⟩) (w := w) (w' := w') (hb b (by omega))).trans hc, hx⟩
theorem Deck.below {g B : Nat} {w w' : World} (h : Deck g w) (hb : Below B w w') (hg : g < B) : Deck g w' := h.keep fun j hj => hb.block j (by omega)
theorem Deck.alloc {g : Nat} {w : World} (h : Deck g w) (o : Obj) : Deck g (w.alloc o) := h.below ((Below.refl _ w).alloc (Nat.le_refl _) o) h.lt
theorem Deck.drewN {g : Nat} {w : World} (h : Deck g w) (n : Nat) : Deck g (w.drewN n) := h
theorem cells_set {w : World} {g : Nat} {cs : Array Value} {T : TypeId} (h : w.heap[g]? = some (.cells cs T (0, 0))) (i : Nat) (u : Value) : (w.setCell ⟨g, i, none⟩ u).heap[g]? = some (.cells (cs.setIfInBounds i u) T (0, 0)) := by
  simp [World.setCell, Array.getElem?_modify, h]
theorem grown_refl (w : World) (r : Option Nat) : w.grownBy w r := ⟨rfl, rfl, rfl, Nat.le_refl _, fun _ _ _ => rfl⟩
theorem grown_trans {a b c : World} {g : Nat} (h : a.grownBy b (some g)) (k : b.grownBy c (some g)) : a.grownBy c (some g) :=
  ⟨k.os.trans h.os, k.tape.trans h.tape, k.output.trans h.output, Nat.le_trans h.size k.size, fun i hi hn => (k.block i (Nat.lt_of_lt_of_le hi h.size) hn).trans (h.block i hi hn)⟩
theorem grown_set {a w : World} {g : Nat} (h : a.grownBy w (some g)) (o : Nat) (u : Value) : a.grownBy (w.setCell ⟨g, o, none⟩ u) (some g) :=
  ⟨h.os, h.tape, h.output, by simpa [World.setCell] using h.size, fun i hi hn => (Below.heap_setCell w ⟨g, o, none⟩ u i (fun e => hn (by rw [e]))).trans (h.block i hi hn)⟩
theorem grown_drewN {a w : World} {r : Option Nat} (h : a.grownBy w r) (n : Nat) : a.grownBy (w.drewN n) r := ⟨h.os, h.tape, h.output, h.size, h.block⟩
theorem grown_alloc {a w : World} {r : Option Nat} (h : a.grownBy w r) (o : Obj) : a.grownBy (w.alloc o) r :=
  ⟨h.os, h.tape, h.output, Nat.le_trans h.size (by simp), fun i hi hn => (Below.heap_alloc w o i (Nat.lt_of_lt_of_le hi h.size)).trans (h.block i hi hn)⟩
theorem grown_below {a w w' : World} {g B : Nat} (h : a.grownBy w (some g)) (hb : Below B w w') (hB : a.heap.size ≤ B) : a.grownBy w' (some g) :=
  ⟨hb.os.trans h.os, hb.tape.trans h.tape, hb.output.trans h.output, Nat.le_trans h.size hb.size, fun i hi hn => (hb.block i (by omega)).trans (h.block i hi hn)⟩
theorem below_of_grown {a w : World} {g B : Nat} (h : a.grownBy w (some g)) (hB : B ≤ g) (ha : B ≤ a.heap.size) : Below B a w :=
  ⟨h.os, h.tape, h.output, h.size, fun k hk => h.block k (by omega) (fun e => by injection e; omega)⟩
/-- A deck whose numbers have turned. -/
theorem deck_of {g : Nat} {w w' : World} {A : Option Addr} {n c k : Nat} {st : Int} (hg : w.grownBy w' (some g))
    (h0 : w'.heap[g]? = some (.cells #[.slice A n c, .int .i64 k, .int .u64 st] 53 (0, 0))) (hg0 : g < w.heap.size) (h1 : k ≤ n) (h2 : n ≤ c) (h3 : c ≤ maxLen) (h4 : 0 ≤ st ∧ st < 18446744073709551616)
    (h5 : ∀ j, j < n → ∃ b o x, A = some ⟨b, o, none⟩ ∧ b < g ∧ w.cell? ⟨b, o + j, none⟩ = some (.int .i64 x) ∧ -9223372036854775808 ≤ x ∧ x ≤ 9223372036854775807) : Deck g w' :=
  ⟨A, n, c, k, st, h0, h1, h2, h3, h4, fun j hj => by
    obtain ⟨b, o, x, ha, hlt, hc, hx⟩ := h5 j hj
    exact ⟨b, o, x, ha, hlt, (World.cell?_of_block (a := ⟨b, o + j, none⟩) (w := w) (w' := w') (hg.block b (by omega) (fun e => by injection e; omega))).trans hc, hx⟩⟩
theorem bits_lt (op : BinOp) (x y : Int) : 0 ≤ bits op .u64 x y ∧ bits op .u64 x y < 18446744073709551616 := by
  have := bounds_u64 (wf_bits op .u64 x y)
  omega
theorem wrap_lt (x : Int) : 0 ≤ IntKind.u64.wrap x ∧ IntKind.u64.wrap x < 18446744073709551616 := by
  have := bounds_u64 (Go.wf_wrap .u64 x)
  omega
set_option maxHeartbeats 1000000 in
theorem Word_any (g : Nat) (w : World) (h : Deck g w) :
    Calls Try.prog 40 #[.pointer (some ⟨g, 0, none⟩)] w fun e w' => ∃ x : Int, e = .returned (.int .u64 x) ∧ (0 ≤ x ∧ x < 18446744073709551616) ∧ Deck g w' ∧ w.grownBy w' (some g) := by
  have hlt0 := h.lt
  obtain ⟨A, n, c, k, st, hb, hk, hn, hc, hst, hl⟩ := h
  have c0 : w.cell? ⟨g, 0, none⟩ = some (.slice A n c) := by rw [Lib.cell_of_heap hb]; rfl
  have c1 : w.cell? ⟨g, 1, none⟩ = some (.int .i64 k) := by rw [Lib.cell_of_heap hb]; rfl
  have c2 : w.cell? ⟨g, 2, none⟩ = some (.int .u64 st) := by rw [Lib.cell_of_heap hb]; rfl
  have f1 : w.frozen? ⟨g, 1, none⟩ = false := Lib.frozen_of_heap hb 1
  have f2 : w.frozen? ⟨g, 2, none⟩ = false := Lib.frozen_of_heap hb 2
  have HL := Lib.hid hl
  clear hl
  have HC := Lib.hid hc
  unfold maxLen at hc
  have HB := Lib.hid hb
  clear hb
  by_cases hlt : k < n
  · obtain ⟨b, o, x, rfl, hbg, hx, hx1, hx2⟩ := HL.out k hlt
    have hne : b ≠ g := by omega
    go_enter Try.func40, Try.ntmps40
    go_wp2
    go_quiet (fail)
    go_wp2
    go_quiet (fail)
    go_wp2
    go_quiet (fail)
    go_wp2
    go_ret
    have hg1 := fun (a c : Nat) (u v : Value) => grown_drewN (grown_set (grown_set (grown_drewN (grown_refl w (some g)) a) 1 u) 2 v) c
    exact ⟨_, rfl, bits_lt _ _ _, deck_of (k := k + 1) (hg1 _ _ _ _) (cells_set (w := World.setCell (World.drewN w _) _ _) (cells_set (w := World.drewN w _) HB.out 1 _) 2 _) hlt0 hlt hn HC.out (wrap_lt _) HL.out, hg1 _ _ _ _⟩
  · go_enter Try.func40, Try.ntmps40
    go_wp2
    go_quiet (fail)
    go_wp2
    go_quiet (fail)
    go_wp2
    go_ret
    refine ⟨_, rfl, bits_lt _ _ _, deck_of (grown_drewN (grown_set (grown_drewN (grown_refl w (some g)) _) 2 _) _) (cells_set (w := World.drewN w _) HB.out 2 _) hlt0 hk hn HC.out (wrap_lt _) HL.out, grown_drewN (grown_set (grown_drewN (grown_refl w (some g)) _) 2 _) _⟩
set_option maxHeartbeats 400000 in
theorem Next_any (g : Nat) (w : World) (h : Deck g w) (n : Int) (h1 : 1 ≤ n) (h2 : n ≤ 1000000) :
    Calls Try.prog 12 #[.pointer (some ⟨g, 0, none⟩), .int .i64 n] w fun e w' => ∃ r : Int, e = .returned (.int .i64 r) ∧ (0 ≤ r ∧ r < n) ∧ Deck g w' ∧ w.grownBy w' (some g) := by
  have HD := Lib.hid h
  clear h
  go_enter Try.func12, Try.ntmps12
  go_wp2_with fail
  refine (Word_any g w HD.out).mono ?_
  rintro e w1 ⟨x, rfl, ⟨hx0, hx1⟩, hd, hg⟩
  go_wp2
  go_ret
  exact ⟨_, rfl, ⟨Int.emod_nonneg _ (by omega), Int.emod_lt_of_pos _ (by omega)⟩, hd, hg⟩
set_option maxHeartbeats 400000 in
theorem One_any (g : Nat) (w : World) (h : Deck g w) (n : Int) (h1 : 1 ≤ n) (h2 : n ≤ 1000000) :
    Calls Try.prog 38 #[.pointer (some ⟨g, 0, none⟩), .int .i64 n] w fun e w' => ∃ b : Bool, e = .returned (.bool b) ∧ Deck g w' ∧ w.grownBy w' (some g) := by
  have HD := Lib.hid h
  clear h
  go_enter Try.func38, Try.ntmps38
  go_wp2_with fail
  refine (Next_any g w HD.out n h1 h2).mono ?_
  rintro e w1 ⟨x, rfl, ⟨hx0, hx1⟩, hd, hg⟩
  go_wp2
  go_ret
  exact ⟨_, rfl, hd, hg⟩
theorem Deck.ne {g b o : Nat} {w : World} {s : ByteArray} (h : Deck g w) (hc : w.cell? ⟨b, o, none⟩ = some (.string s)) : b ≠ g := by
  rintro rfl
  obtain ⟨A, n, c, k, st, hb, _⟩ := h
  rw [Lib.cell_of_heap hb] at hc
  match o, hc with
  | 0, hc => simp at hc
  | 1, hc => simp at hc
  | 2, hc => simp at hc
  | n + 3, hc => simp at hc
theorem IsTexts.grown {B g : Nat} {w w' : World} {v : Value} {xs : List ByteArray} (h : IsTexts B w v xs) (hd : Deck g w) (hb : w.grownBy w' (some g)) (hB : B ≤ w.heap.size) : IsTexts B w' v xs := by
  obtain ⟨a, c, hv, h1, h2, h3⟩ := h
  refine ⟨a, c, hv, h1, h2, ?_⟩
  rcases h3 with h3 | ⟨b, o, ha, hlt, hc⟩
  · exact .inl h3
  · refine .inr ⟨b, o, ha, hlt, fun j x hx => ?_⟩
    have hne := hd.ne (hc j x hx)
    exact (World.cell?_of_block (a := ⟨b, o + j, none⟩) (w := w) (w' := w') (hb.block b (by omega) (fun e => hne (by injection e)))).trans (hc j x hx)
/-- A slice of texts that is written out. -/
theorem texts_lit (w : World) (xs : List ByteArray) (h : xs.length ≤ maxLen) : IsTexts (w.heap.size + 1) (w.alloc (.cells (xs.map Value.string).toArray 9)) (.slice (some ⟨w.heap.size, 0, none⟩) xs.length xs.length) xs := by
  refine ⟨_, _, rfl, Nat.le_refl _, h, .inr ⟨_, _, rfl, Nat.lt_succ_self _, fun j x hx => ?_⟩⟩
  rw [cell_of_row _ _ _ _ _ _ (heap_alloc_new w _)]
  simp [hx]
/-- A slice of integers that came in. -/
def IntsArg (w : World) (A : Option Addr) (n c : Nat) : Prop := n ≤ c ∧ c ≤ maxLen ∧
  ∀ j, j < n → ∃ b o x, A = some ⟨b, o, none⟩ ∧ b < w.heap.size ∧ w.cell? ⟨b, o + j, none⟩ = some (.int .i64 x) ∧ -9223372036854775808 ≤ x ∧ x ≤ 9223372036854775807
theorem IntsArg.below {w w' : World} {A : Option Addr} {n c : Nat} (h : IntsArg w A n c) (hb : Below w.heap.size w w') : IntsArg w' A n c :=
  ⟨h.1, h.2.1, fun j hj => by
    obtain ⟨b, o, x, ha, hlt, hc, hx⟩ := h.2.2 j hj
    exact ⟨b, o, x, ha, Nat.lt_of_lt_of_le hlt hb.size, (hb.cell (p := ⟨b, o + j, none⟩) hlt).trans hc, hx⟩⟩
set_option maxHeartbeats 400000 in
theorem New_any (A : Option Addr) (n c : Nat) (w : World) (h : IntsArg w A n c) :
    Calls Try.prog 10 #[.slice A n c] w fun e w' => e = .returned (.pointer (some ⟨w.heap.size, 0, none⟩)) ∧ Deck w.heap.size w' ∧ Below w.heap.size w w' := by
  have HI := Lib.hid h
  clear h
  go_enter Try.func10, Try.ntmps10
  go_wp2
  go_ret
  refine ⟨rfl, ?_, (Below.refl _ w).alloc (Nat.le_refl _) _⟩
  obtain ⟨h1, h2, h3⟩ := HI.out
  refine ⟨A, n, c, 0, 11400714819323198485, heap_alloc_new w _, Nat.zero_le _, h1, h2, by decide, fun j hj => ?_⟩
  obtain ⟨b, o, x, ha, hlt, hc, hx⟩ := h3 j hj
  exact ⟨b, o, x, ha, hlt, (((Below.refl w.heap.size w).alloc (Nat.le_refl _) _).cell (p := ⟨b, o + j, none⟩) hlt).trans hc, hx⟩
set_option maxHeartbeats 400000 in
theorem Few_any (A : Option Addr) (n c : Nat) (w : World) (h : n ≤ maxLen) :
    Calls Try.prog 9 #[.slice A n c] w fun e w' => e = .returned (.bool (decide (n ≤ 400))) ∧ w = w' := by
  unfold maxLen at h
  go_enter Try.func9, Try.ntmps9
  go_wp2
  go_ret
  exact ⟨ret_bool (by rw [Bool.eq_iff_iff]; simp; omega), rfl⟩
theorem size_list (s : ByteArray) : s.data.toList.length = s.size := by simp
theorem ba_ext {a b : ByteArray} (h : a.data.toList = b.data.toList) : a = b := by
  cases a; cases b
  congr 1
  exact Array.toList_inj.1 h
theorem IsTexts.nil_ {B : Nat} {w : World} {v : Value} (h : IsTexts B w v []) : ∃ a c, v = .slice a 0 c := by
  obtain ⟨a, c, hv, _⟩ := h
  exact ⟨a, c, hv⟩
def shortB (xs : List ByteArray) : Bool := xs.all fun x => decide (x.size ≤ 200)
theorem short_one (raw : ByteArray) : shortB [raw] = decide (raw.size ≤ 200) := by simp [shortB]
end Go.Proofs.Ytfcnodiepdnegaa
