/- Slices of words and arrays as the walks meet them; Valid, New, Has of the reference. -/
import Derived.Test.YtfcnodiepdnegaaEBase
import Derived.Test.YtfcnodiepdnegaaSipWord
import Derived.Test.YtfcnodiepdnegaaBitHex
import Derived.Laws.OwnMore
import Derived.Deep.OwnRows
import Derived.Deep.RegionHeld3
namespace Go.Proofs.Ytfcnodiepdnegaa
open Go.RowKit
set_option linter.unusedVariables false
set_option maxRecDepth 100000

/-- A slice value that reads as a list of words; all its cells lie below block B. -/
def IsWs (B : Nat) (w : World) (v : Value) (l : List UInt64) : Prop :=
  ∃ (a : Option Addr) (c : Nat), v = .slice a l.length c ∧ l.length ≤ c ∧ c ≤ maxLen ∧ (l = [] ∨ ∃ b o, a = some ⟨b, o, none⟩ ∧ b < B ∧ ∀ j x, l[j]? = some x → w.cell? ⟨b, o + j, none⟩ = some (.int .u64 (n64 x)))
theorem IsWs.keep {B : Nat} {w w' : World} {v : Value} {l : List UInt64} (h : IsWs B w v l) (hb : Below B w w') : IsWs B w' v l := by
  obtain ⟨a, c, hv, h1, h2, h3⟩ := h
  refine ⟨a, c, hv, h1, h2, ?_⟩
  rcases h3 with h3 | ⟨b, o, ha, hlt, hc⟩
  · exact .inl h3
  · exact .inr ⟨b, o, ha, hlt, fun j x hx => (hb.cell (p := ⟨b, o + j, none⟩) hlt).trans (hc j x hx)⟩
theorem IsWs.more {B B' : Nat} {w : World} {v : Value} {l : List UInt64} (h : IsWs B w v l) (hb : B ≤ B') : IsWs B' w v l := by
  obtain ⟨a, c, hv, h1, h2, h3⟩ := h
  refine ⟨a, c, hv, h1, h2, ?_⟩
  rcases h3 with h3 | ⟨b, o, ha, hlt, hc⟩
  · exact .inl h3
  · exact .inr ⟨b, o, ha, by omega, hc⟩
theorem IsWs.cells {B : Nat} {w : World} {v : Value} {l : List UInt64} (h : IsWs B w v l) : ∃ A c, v = .slice A l.length c ∧ l.length ≤ c ∧ c ≤ maxLen ∧ ∀ k, ∀ hk : k < l.length, ∃ b o, A = some ⟨b, o, none⟩ ∧ b < B ∧ w.cell? ⟨b, o + k, none⟩ = some (.int .u64 (n64 l[k])) := by
  obtain ⟨a, c, hv, h1, h2, h3⟩ := h
  refine ⟨a, c, hv, h1, h2, fun k hk => ?_⟩
  rcases h3 with h3 | ⟨b, o, ha, hlt, hc⟩
  · rw [h3] at hk
    exact absurd hk (Nat.not_lt_zero _)
  · exact ⟨b, o, ha, hlt, hc k _ (List.getElem?_eq_getElem hk)⟩
/-- A value that reads as an array: its length and its words. -/
def IsBits (B : Nat) (w : World) (v : Value) (L : Int) (l : List UInt64) : Prop :=
  ∃ sv, v = .agg #[.int .i64 L, sv] ∧ IsWs B w sv l ∧ -9223372036854775808 ≤ L ∧ L ≤ 9223372036854775807
theorem IsBits.keep {B : Nat} {w w' : World} {v : Value} {L : Int} {l : List UInt64} (h : IsBits B w v L l) (hb : Below B w w') : IsBits B w' v L l := by
  obtain ⟨sv, hv, hs, h1, h2⟩ := h
  exact ⟨sv, hv, hs.keep hb, h1, h2⟩
theorem IsBits.more {B B' : Nat} {w : World} {v : Value} {L : Int} {l : List UInt64} (h : IsBits B w v L l) (hb : B ≤ B') : IsBits B' w v L l := by
  obtain ⟨sv, hv, hs, h1, h2⟩ := h
  exact ⟨sv, hv, hs.more hb, h1, h2⟩
theorem IsBits.open_ {B : Nat} {w : World} {v : Value} {L : Int} {l : List UInt64} (h : IsBits B w v L l) : ∃ A c, v = .agg #[.int .i64 L, .slice A l.length c] ∧ Hid (IsBits B w (.agg #[.int .i64 L, .slice A l.length c]) L l) ∧ l.length ≤ c ∧ c ≤ 2 ^ 63 - 1 ∧ (-9223372036854775808 ≤ L ∧ L ≤ 9223372036854775807) ∧
    Hid (∀ k, ∀ hk : k < l.length, ∃ b o, A = some ⟨b, o, none⟩ ∧ b < B ∧ w.cell? ⟨b, o + k, none⟩ = some (.int .u64 (n64 l[k]))) := by
  have h' := h
  obtain ⟨sv, rfl, hs, hL⟩ := h
  obtain ⟨A, c, rfl, h1, h2, hc⟩ := hs.cells
  exact ⟨A, c, rfl, h', h1, h2, hL, hc⟩
/-- The array without words of length 0, which comes with an error. -/
def zeroV : Value := .agg #[.int .i64 0, .slice none 0 0]
theorem zero_is (B : Nat) (w : World) : IsBits B w zeroV 0 [] := ⟨_, rfl, ⟨none, 0, rfl, Nat.le_refl _, Nat.zero_le _, .inl rfl⟩, by decide, by decide⟩
/-- A row of words of this call's own. -/
def OwnsW (base : Nat) (w : World) (v : Value) (l : List UInt64) : Prop := w.ownsRow base 51 1 v l.length (l.map fun x => Value.int .u64 (n64 x))
theorem wordInfo : (Try.prog.info? 51).map (fun i => (i.zero, i.size, i.bytes)) = some (some (.int .u64 0), 1, 8) := by kernel_rfl
theorem OwnsW.is {base : Nat} {w : World} {v : Value} {l : List UInt64} (h : OwnsW base w v l) : IsWs w.heap.size w v l := by
  rcases h.2 with ⟨hv, h0⟩ | ⟨g, cap, cur, hv, hbg, hg, hnc, hcm, hcs, htake⟩
  · obtain rfl := List.eq_nil_of_length_eq_zero h0
    exact ⟨none, 0, hv, Nat.le_refl _, Nat.zero_le _, .inl rfl⟩
  · refine ⟨_, cap, hv, hnc, hcm, .inr ⟨g, 0, rfl, (Array.getElem?_eq_some_iff.1 hg).1, fun j x hx => ?_⟩⟩
    have := World.ownsRow.cells h (g := g) (by rw [hv]; rfl) j (.int .u64 (n64 x)) (by rw [List.getElem?_map, hx]; rfl)
    have hp : ((⟨g, 0, none⟩ : Addr).add j) = ⟨g, j, none⟩ := by unfold Addr.add; split <;> simp_all
    rw [hp] at this
    rw [Nat.zero_add]
    exact this
theorem OwnsW.slice_ {base : Nat} {w : World} {v : Value} {l : List UInt64} (h : OwnsW base w v l) : ∃ A c, v = .slice A l.length c := by
  rcases h.2 with ⟨hv, h0⟩ | ⟨g, cap, cur, hv, -⟩
  · exact ⟨none, 0, by rw [hv, h0]⟩
  · exact ⟨_, cap, hv⟩
theorem owns_made {base g n : Nat} {W : World} (hg : W.heap[g]? = some (.cells (madeCells #[.int .u64 0] n) 51 (0, 0))) (hb : base ≤ g) (hn : n ≤ maxLen) : OwnsW base W (.slice (some ⟨g, 0, none⟩) n n) (List.replicate n 0) := by
  have e : (madeCells #[.int .u64 0] n).toList = (List.replicate n (0 : UInt64)).map fun x => Value.int .u64 (n64 x) := by
    rw [toList_madeCells_one, List.map_replicate]
    rfl
  have hsz : (madeCells #[.int .u64 0] n).size = n := by rw [← Array.length_toList, e, List.length_map, List.length_replicate]
  unfold OwnsW
  rw [← e, List.length_replicate]
  refine ⟨by rw [Array.length_toList, hsz, Nat.mul_one], .inr ⟨g, n, _, rfl, hb, hg, Nat.le_refl _, hn, by rw [hsz, Nat.mul_one], ?_⟩⟩
  rw [List.take_of_length_le]
  rw [Array.length_toList, hsz, Nat.mul_one]
  exact Nat.le_refl _
def InRange (n : Int) : Prop := -9223372036854775808 ≤ n ∧ n ≤ 9223372036854775807
theorem zero_range : InRange 0 := by unfold InRange; decide
/-- What a function that makes an array returns: its words lie in a row of its own. -/
def Made (w : World) (o : BM.Out) (e : Ending) (w' : World) : Prop :=
  ∃ u, e = .returned (.tuple #[.agg #[.int .i64 o.2.1, u], .int .i64 o.1]) ∧ OwnsW w.heap.size w' u o.2.2 ∧ InRange o.2.1 ∧ Below w.heap.size w w'

theorem len_range {n : Int} (h : BM.lenB n = true) : 64 ≤ n ∧ n ≤ 512 ∧ n % 64 = 0 := by
  unfold BM.lenB at h
  simpa using h
theorem beq_dec (a b : Int) : (a == b) = decide (a = b) := by rw [Bool.eq_iff_iff, beq_iff_eq, decide_eq_true_eq]
theorem ret_int {a b : Int} (h : a = b) : Ending.returned (.int .i64 a) = .returned (.int .i64 b) := by rw [h]
set_option maxHeartbeats 1000000 in
theorem rlength_any (n : Int) (w : World) (hn : -9223372036854775808 ≤ n ∧ n ≤ 9223372036854775807) :
    Calls Try.prog 43 #[.int .i64 n] w fun e w' => e = .returned (.bool (BM.lenB n)) ∧ w' = w := by
  by_cases h1 : 64 ≤ n
  · by_cases h2 : n ≤ 512
    · have HV := Lib.hid (show (n % 64 == 0) = BM.lenB n by unfold BM.lenB; rw [decide_eq_true h1, decide_eq_true h2, beq_dec]; rfl)
      go_enter Try.func43, Try.ntmps43
      go_wp2
      go_ret
      exact ⟨ret_bool HV.out, rfl⟩
    · have HV := Lib.hid (show false = BM.lenB n by unfold BM.lenB; rw [decide_eq_true h1, decide_eq_false h2]; rfl)
      go_enter Try.func43, Try.ntmps43
      go_wp2
      go_ret
      exact ⟨ret_bool HV.out, rfl⟩
  · have HV := Lib.hid (show false = BM.lenB n by unfold BM.lenB; rw [decide_eq_false h1]; rfl)
    go_enter Try.func43, Try.ntmps43
    go_wp2
    go_ret
    exact ⟨ret_bool HV.out, rfl⟩
set_option maxHeartbeats 1000000 in
theorem rValid_any (B : Nat) (v : Value) (L : Int) (l : List UInt64) (w : World) (h : IsBits B w v L l) :
    Calls Try.prog 33 #[v] w fun e w' => e = .returned (.bool (BM.okB L l)) ∧ Below w.heap.size w w' := by
  obtain ⟨sv, rfl, hs, hL⟩ := h
  obtain ⟨a, c, rfl, h1, h2, -⟩ := hs.cells
  clear hs
  have hb : Below w.heap.size w (w.alloc (.cells #[.int .i64 L, .slice a l.length c] 25)) := (Below.refl _ w).alloc (Nat.le_refl _) _
  have HL := Lib.hid (fun W => rlength_any L W hL)
  have HO := Lib.hid (show BM.okB L l = (BM.lenB L && decide ((l.length : Int) = L / 64)) from rfl)
  go_enter Try.func33, Try.ntmps33
  go_wp2_with fail
  refine (HL.out _).mono ?_
  rintro e w1 ⟨rfl, hw⟩
  subst w1
  cases hl : BM.lenB L
  · go_wp2
    go_ret
    exact ⟨ret_bool (by rw [HO.out, hl]; rfl), hb⟩
  · obtain ⟨g1, g2, -⟩ := len_range hl
    go_wp2
    go_ret
    exact ⟨ret_bool (by rw [HO.out, hl, beq_dec]; rfl), hb⟩
set_option maxHeartbeats 1000000 in
theorem rorder_any (a b : Int) (w : World) :
    Calls Try.prog 52 #[.int .i64 a, .int .i64 b] w fun e w' => e = .returned (.int .i64 (BM.ordM a b)) ∧ w' = w := by
  by_cases h1 : a < b
  · have HV := Lib.hid (show (-1 : Int) = BM.ordM a b by unfold BM.ordM; rw [if_pos h1])
    go_enter Try.func52, Try.ntmps52
    go_wp2
    go_ret
    exact ⟨ret_int HV.out, rfl⟩
  · by_cases h2 : b < a
    · have HV := Lib.hid (show (1 : Int) = BM.ordM a b by unfold BM.ordM; rw [if_neg h1, if_pos h2])
      go_enter Try.func52, Try.ntmps52
      go_wp2
      go_ret
      exact ⟨ret_int HV.out, rfl⟩
    · have HV := Lib.hid (show (0 : Int) = BM.ordM a b by unfold BM.ordM; rw [if_neg h1, if_neg h2])
      go_enter Try.func52, Try.ntmps52
      go_wp2
      go_ret
      exact ⟨ret_int HV.out, rfl⟩
theorem new_cellW (w : World) (cs : Array Value) (T : TypeId) (k : Nat) (v : Value) (h : cs[k]? = some v) : (w.alloc (.cells cs T)).cell? ⟨w.heap.size, k, none⟩ = some v := by
  rw [cell_of_row _ _ _ _ _ _ (heap_alloc_new w _)]; exact h
theorem cell_oneW {w : World} {u : Obj} {b o : Nat} {v : Value} (h : w.cell? ⟨b, o, none⟩ = some v) : (w.alloc u).cell? ⟨b, o, none⟩ = some v :=
  (World.cell?_of_block (a := ⟨b, o, none⟩) (w := w) (w' := w.alloc u) (Below.heap_alloc w u b (World.block_lt_of_cell? _ _ h))).trans h
theorem same_of {w w' : World} {W : World} (h : Below w.heap.size w W) (hb : Below W.heap.size W w') : Below w.heap.size w w' := h.trans (hb.mono h.size)
/-- A row of words whose cells are known by their place. -/
theorem ws_row {W : World} {b n : Nat} {f : Nat → Value} {l : List UInt64} (h : W.rowIs b 51 n f) (hl : l.length = n) (hf : ∀ j x, l[j]? = some x → f j = .int .u64 (n64 x)) (hn : n ≤ maxLen) (h0 : 0 < n) : IsWs W.heap.size W (.slice (some ⟨b, 0, none⟩) n n) l := by
  refine ⟨_, n, by rw [hl], by omega, hn, .inr ⟨b, 0, rfl, h.lt, fun j x hx => ?_⟩⟩
  have hj : j < n := by
    have := (List.getElem?_eq_some_iff.1 hx).1
    omega
  rw [Nat.zero_add, h.cell hj, hf j x hx]
theorem n64_zero : n64 0 = 0 := rfl
set_option maxHeartbeats 1000000 in
theorem rNew_any (n : Int) (w : World) (hn : -9223372036854775808 ≤ n ∧ n ≤ 9223372036854775807) :
    Calls Try.prog 14 #[.int .i64 n] w fun e w' => Made w (BM.newM n) e w' := by
  have HL := Lib.hid (fun W => rlength_any n W hn)
  go_enter Try.func14, Try.ntmps14
  go_wp2_with fail
  refine (HL.out _).mono ?_
  rintro e w1 ⟨rfl, hw⟩
  subst w1
  cases hl : BM.lenB n
  · have HN := Lib.hid (show BM.newM n = (2, 0, []) by unfold BM.newM; rw [hl]; rfl)
    have z0 := new_cellW w #[.int .i64 0, .slice none 0 0] 25 0 _ rfl
    have z1 := new_cellW w #[.int .i64 0, .slice none 0 0] 25 1 _ rfl
    go_wp2
    refine bodyPost_ret (v := .tuple #[zeroV, .int .i64 2]) (by simp [results, Try.results14, zeroV, go_sem, z0, z1]) rfl ?_
    rw [HN.out]
    exact ⟨_, rfl, World.ownsRow_nil _ _ _ _, zero_range, (Below.refl _ w).alloc (Nat.le_refl _) _⟩
  · obtain ⟨g1, g2, -⟩ := len_range hl
    obtain ⟨m, hm⟩ : ∃ m : Nat, n / 64 = (m : Int) := ⟨(n / 64).toNat, by omega⟩
    have hm8 : m ≤ 8 := by omega
    have hm1 : 0 < m := by omega
    have HN := Lib.hid (show BM.newM n = (0, n, List.replicate m 0) by unfold BM.newM; rw [hl, hm]; rfl)
    have hmk := run_make_row' (P := Try.prog) 23 51 (.int .u64 0) 8 Try.underlying23 wordInfo rfl .i64 .i64 m (by omega) (by omega)
    have z0 := cell_oneW (u := .cells (madeCells #[.int .u64 0] m) 51) (new_cellW w #[.int .i64 n, .slice (some ⟨w.heap.size + 1, 0, none⟩) m m] 25 0 _ rfl)
    have z1 := cell_oneW (u := .cells (madeCells #[.int .u64 0] m) 51) (new_cellW w #[.int .i64 n, .slice (some ⟨w.heap.size + 1, 0, none⟩) m m] 25 1 _ rfl)
    go_wp2
    refine bodyPost_ret (v := .tuple #[.agg #[.int .i64 n, .slice (some ⟨w.heap.size + 1, 0, none⟩) m m], .int .i64 0]) (by simp [results, Try.results14, go_sem, z0, z1]) rfl ?_
    rw [HN.out]
    have hrow := heap_two8 w (.cells #[.int .i64 n, .slice (some ⟨w.heap.size + 1, 0, none⟩) m m] 25) (madeCells #[.int .u64 0] m) 51
    exact ⟨_, rfl, owns_made hrow (Nat.le_succ _) (by unfold maxLen; omega), hn, two_new8 w _ _⟩
end Go.Proofs.Ytfcnodiepdnegaa
