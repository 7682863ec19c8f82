/- The program's Parse. -/
import Derived.Test.YtfcnodiepdnegaaBitP4
import Derived.Test.YtfcnodiepdnegaaBitParse
namespace Go.Proofs.Ytfcnodiepdnegaa
open Go.RowKit
set_option linter.unusedVariables false
set_option maxRecDepth 100000

/-- What is read of the word number j when k digits have been read. -/
def seen (s : List UInt8) (k j : Nat) : List UInt8 := (s.drop (16 * j)).take (min 16 (k - 16 * j))
/-- The words when k digits have been read. -/
def Sofar (s : List UInt8) (N k : Nat) (m : List UInt64) : Prop :=
  m.length = N ∧ ∀ j, j < N → ∃ x, BM.readN 0 (seen s k j) = some x ∧ m.getD j 0 = UInt64.ofNat x ∧ x < 16 ^ (min 16 (k - 16 * j))
theorem sofar_start (s : List UInt8) (N : Nat) : Sofar s N 0 (List.replicate N 0) := by
  refine ⟨List.length_replicate, fun j hj => ⟨0, ?_, ?_, ?_⟩⟩
  · unfold seen
    simp [BM.readN]
  · rw [List.getD_eq_getElem?_getD, List.getElem?_replicate, if_pos hj]
    rfl
  · simp
theorem seen_same (s : List UInt8) (k j : Nat) (h : j ≠ k / 16) : seen s (k + 1) j = seen s k j := by
  unfold seen
  rw [show min 16 (k + 1 - 16 * j) = min 16 (k - 16 * j) by omega]
theorem seen_next (s : List UInt8) (k : Nat) (hk : k < s.length) (x : Nat) (h : BM.readN 0 (seen s k (k / 16)) = some x) : BM.readN 0 (seen s (k + 1) (k / 16)) = (BM.undig s[k]).map fun d => x * 16 + d := by
  unfold seen at *
  have e1 : min 16 (k - 16 * (k / 16)) = k % 16 := by omega
  have e2 : min 16 (k + 1 - 16 * (k / 16)) = k % 16 + 1 := by omega
  rw [e1] at h
  rw [e2]
  have hl : k % 16 < (s.drop (16 * (k / 16))).length := by rw [List.length_drop]; omega
  rw [readN_take _ (k % 16) hl x h]
  congr 2
  rw [List.getElem_drop]
  congr 1
  omega
theorem Sofar.next {s : List UInt8} {N k : Nat} {m : List UInt64} (h : Sofar s N k m) (hk : k < s.length) (hN : k / 16 < N) {d x : Nat} (hd : BM.undig s[k] = some d) (hx : BM.readN 0 (seen s k (k / 16)) = some x) (hx2 : x < 16 ^ (k % 16)) : Sofar s N (k + 1) (m.set (k / 16) (UInt64.ofNat (x * 16 + d))) := by
  obtain ⟨h1, h2⟩ := h
  refine ⟨by rw [List.length_set, h1], fun j hj => ?_⟩
  by_cases e : j = k / 16
  · subst e
    refine ⟨x * 16 + d, ?_, ?_, ?_⟩
    · rw [seen_next s k hk x hx, hd]
      rfl
    · rw [List.getD_eq_getElem?_getD, List.getElem?_set_self (by omega)]
      rfl
    · have h16 := (dig_some _ _ hd).1
      rw [show min 16 (k + 1 - 16 * (k / 16)) = k % 16 + 1 by omega, Nat.pow_succ]
      omega
  · obtain ⟨y, h3, h4, h5⟩ := h2 j hj
    refine ⟨y, by rw [seen_same s k j e]; exact h3, ?_, ?_⟩
    · rw [List.getD_eq_getElem?_getD, List.getElem?_set_ne (fun h => e h.symm), ← List.getD_eq_getElem?_getD]
      exact h4
    · rw [show min 16 (k + 1 - 16 * j) = min 16 (k - 16 * j) by omega]
      exact h5
theorem Sofar.words {s : List UInt8} {N k : Nat} {m : List UInt64} (h : Sofar s N k m) (n : Nat) (hn : 16 * n ≤ k) (hN : n ≤ N) : BM.readL n s = some (m.take n) := by
  induction n with
  | zero => simp [BM.readL]
  | succ n ih =>
    rw [readL_next, ih (by omega) (by omega)]
    obtain ⟨x, h3, h4, -⟩ := h.2 n (by omega)
    unfold seen at h3
    rw [show min 16 (k - 16 * n) = 16 by omega] at h3
    have hl := h.1
    simp only [Option.bind_some]
    rw [h3]
    simp only [Option.map_some]
    rw [List.take_succ_eq_append_getElem (by omega), ← h4, List.getD_eq_getElem?_getD, List.getElem?_eq_getElem (by omega : n < m.length)]
    rfl
theorem Sofar.stop {s : List UInt8} {N k : Nat} {m : List UInt64} (h : Sofar s N k m) (hk : k < s.length) (hN : k / 16 < N) (hd : BM.undig s[k] = none) : BM.readL N s = none := by
  obtain ⟨x, h3, h4, -⟩ := h.2 (k / 16) hN
  have e := seen_next s k hk x h3
  rw [hd] at e
  have hw := h.words (k / 16) (by omega) (by omega)
  refine readL_none s (k / 16 + 1) N ?_ (by omega)
  rw [readL_next, hw]
  have e2 : BM.readN 0 ((s.drop (16 * (k / 16))).take 16) = none := by
    refine readN_none _ (k % 16 + 1) ?_
    rw [List.take_take]
    unfold seen at e
    rw [show min 16 (k + 1 - 16 * (k / 16)) = k % 16 + 1 by omega] at e
    rw [show min (k % 16 + 1) 16 = k % 16 + 1 by omega]
    exact e
  simp only [Option.bind_some]
  rw [e2]
  rfl
set_option maxHeartbeats 2000000 in
theorem pParse_any (s : ByteArray) (w : World) (_ : PEnv w) (hs : s.size ≤ 1000000) :
    Calls Try.prog 36 #[.string s] w fun e w' => Made w (BM.parseM s.data.toList) e w' := by
  have HL := Lib.hid (fun n W hn => plen_any n W hn)
  have HE := Lib.hid (fun n W hl => pempty_any n W hl)
  have HM := Lib.hid (show BM.parseM s.data.toList = if decide (s.data.toList.length % 16 = 0) && BM.lenB (4 * s.data.toList.length) then (match BM.readL (s.data.toList.length / 16) s.data.toList with | some l => ((0, 4 * (s.data.toList.length : Int), l) : BM.Out) | none => (14, 0, [])) else (14, 0, []) from rfl)
  rw [size_list] at HM
  have hb0 : Below w.heap.size w (w.alloc (.cells #[.int .i64 0, .slice none 0 0] 25)) := (Below.refl _ w).alloc (Nat.le_refl _) _
  have hq0 := heap_alloc_new w (.cells #[.int .i64 0, .slice none 0 0] 25)
  have hs1 : (w.alloc (.cells #[.int .i64 0, .slice none 0 0] 25)).heap.size = w.heap.size + 1 := by simp
  go_enter Try.func36, Try.ntmps36
  go_wp2_with fail
  generalize w.alloc (.cells #[.int .i64 0, .slice none 0 0] 25) = W1 at *
  refine (HL.out _ _ (by omega)).mono ?_
  rintro e w2 ⟨rfl, hw⟩
  subst w2
  rw [Int.mul_comm]
  cases hl : BM.lenB (4 * (s.size : Int))
  · have HMR := Lib.hid (show BM.parseM s.data.toList = (14, 0, []) by rw [HM.out, hl, Bool.and_false]; rfl)
    obtain ⟨⟨y0, y1⟩, f0, f1⟩ := row2B hq0
    have HZ := Lib.hid (cells_set (cells_set hq0 0 (.int .i64 0)) 1 (.slice none 0 0))
    have HBZ := Lib.hid ((hb0.setCell (p := ⟨w.heap.size, 0, none⟩) (Nat.le_refl _) (.int .i64 0)).setCell (p := ⟨w.heap.size, 1, none⟩) (Nat.le_refl _) (.slice none 0 0))
    go_wp2
    have t0 := cell_of_row _ _ 0 _ _ _ HZ.out
    have t1 := cell_of_row _ _ 1 _ _ _ HZ.out
    refine bodyPost_ret (v := .tuple #[zeroV, .int .i64 14]) (by simp [results, Try.results36, zeroV, go_sem, t0, t1]) rfl ?_
    rw [HMR.out]
    exact ⟨_, rfl, World.ownsRow_nil _ _ _ _, zero_range, HBZ.out⟩
  · obtain ⟨g1, g2, g3⟩ := len_range hl
    obtain ⟨N, hN⟩ : ∃ N, s.size = 16 * N := ⟨s.size / 16, by omega⟩
    have hN8 : 1 ≤ N ∧ N ≤ 8 := by omega
    have HMR := Lib.hid (show BM.parseM s.data.toList = (match BM.readL N s.data.toList with | some l => ((0, 4 * (s.size : Int), l) : BM.Out) | none => (14, 0, [])) by
      rw [HM.out, hl, decide_eq_true (by omega : s.size % 16 = 0), show s.size / 16 = N by omega]
      rfl)
    have HN := Lib.hid hN
    have HNN := Lib.hid (show (4 * (s.size : Int) / 64).toNat = N by omega)
    have hrgL : InRange (4 * (s.size : Int)) := by unfold InRange; omega
    have HRG := Lib.hid hrgL
    clear g1 g2 g3 HM hN hrgL
    go_wp2_with fail
    refine (HE.out _ _ hl).mono ?_
    rintro e w2 ⟨u, rfl, hu, b2⟩
    rw [HNN.out] at hu
    have hrep : (List.replicate N (0 : UInt64)).length = N := List.length_replicate
    have HSF := Lib.hid (sofar_start s.data.toList N)
    generalize List.replicate N (0 : UInt64) = RP at *
    obtain ⟨g, cap, rfl, hg, hg2, hcap, hcap2⟩ := hu.form (by intro e; rw [e] at hrep; simp at hrep; omega)
    unfold maxLen at hcap2
    rw [hrep] at hu hcap ⊢
    have hb2 := same_of hb0 b2
    have hs2 := b2.size
    have hq2 := (b2.block w.heap.size (by omega)).trans hq0
    generalize 4 * (s.size : Int) = LN at *
    have own3 : OwnsW W1.heap.size (w2.alloc (.cells #[.int .i64 LN, .slice (some ⟨g, 0, none⟩) N cap] 25)) (.slice (some ⟨g, 0, none⟩) N cap) RP := hu.keep ((Below.refl _ w2).alloc (Nat.le_refl _) _)
    have hx3 := heap_alloc_new w2 (.cells #[.int .i64 LN, .slice (some ⟨g, 0, none⟩) N cap] 25)
    have hq3 := (Below.heap_alloc w2 (.cells #[.int .i64 LN, .slice (some ⟨g, 0, none⟩) N cap] 25) w.heap.size (by omega)).trans hq2
    have hb3 : Below w.heap.size w (w2.alloc (.cells #[.int .i64 LN, .slice (some ⟨g, 0, none⟩) N cap] 25)) := hb2.alloc (by omega) _
    have HD := Lib.hid (fun c W => pdigit_any c W)
    go_wp2_with fail
    generalize w2.alloc (.cells #[.int .i64 LN, .slice (some ⟨g, 0, none⟩) N cap] 25) = W3 at *
    generalize w2.heap.size = X at *
    have HW3 := Lib.hid (And.intro hq3 (And.intro hx3 (And.intro own3 hb3)))
    clear hq0 hb0 hu hrep hb2 b2 hq2 own3 hx3 hq3 hb3 hl HL HE
    go_loopw [20] (fun iv wr => ∃ (k : Nat) (m : List UInt64), k ≤ s.size ∧ iv = .int .i64 k ∧ Sofar s.data.toList N k m ∧ wr.heap[w.heap.size]? = some (.cells #[.int .i64 0, .slice none 0 0] 25 (0, 0)) ∧ wr.heap[X]? = some (.cells #[.int .i64 LN, .slice (some ⟨g, 0, none⟩) N cap] 25 (0, 0)) ∧ OwnsW W1.heap.size wr (.slice (some ⟨g, 0, none⟩) N cap) m ∧ Below w.heap.size w wr) (fun iv _ => s.size - (intOf iv).toNat)
    case atStart => exact ⟨0, RP, Nat.zero_le _, rfl, HSF.out, HW3.out.1, HW3.out.2.1, HW3.out.2.2.1, HW3.out.2.2.2⟩
    case round =>
      obtain ⟨k, m, hk, rfl, hso, hqr, hqx, hown, hbr⟩ := hrel
      have HS := Lib.hid hso
      have hml := hso.1
      obtain ⟨⟨x0, x1⟩, -, -⟩ := row2B hqx
      by_cases hlt : k < s.size
      · have hN0 := HN.out
        obtain ⟨K, hK⟩ : ∃ K, K = k / 16 := ⟨_, rfl⟩
        have hKN : K < N := by omega
        have hlt2 : k < s.data.toList.length := by rw [size_list]; exact hlt
        have hget : s.data.toList[k]'hlt2 = s[k] := rfl
        obtain ⟨x, hx, hxm, hxl⟩ := hso.2 K hKN
        obtain ⟨c0, fr0⟩ := hown.cellAt K (by omega) (by omega)
        have HD1 := Lib.hid (fun W => HD.out s[k] W)
        cases hud : BM.undig s[k] with
        | none =>
          have HMS := Lib.hid (show BM.parseM s.data.toList = (14, 0, []) by
            rw [HMR.out, hso.stop hlt2 (by omega) (by rw [hget]; exact hud)])
          rw [hud] at HD1
          obtain ⟨⟨y0, y1⟩, f0, f1⟩ := row2B hqr
          have HZ := Lib.hid (cells_set (cells_set hqr 0 (.int .i64 0)) 1 (.slice none 0 0))
          have HBZ := Lib.hid ((hbr.setCell (p := ⟨w.heap.size, 0, none⟩) (Nat.le_refl _) (.int .i64 0)).setCell (p := ⟨w.heap.size, 1, none⟩) (Nat.le_refl _) (.slice none 0 0))
          clear hK hso hx hxm hxl c0 fr0 hown hqr hqx hbr hud hN0 hget hml x0 x1
          generalize hck : s[k] = ck at *
          go_wp2_with fail
          refine (HD1.out _).mono ?_
          rintro e w4 ⟨rfl, hw⟩
          subst w4
          simp only [Option.isSome_none, Option.getD_none]
          go_wp2
          have t0 := cell_of_row _ _ 0 _ _ _ HZ.out
          have t1 := cell_of_row _ _ 1 _ _ _ HZ.out
          refine bodyPost_ret (v := .tuple #[zeroV, .int .i64 14]) (by simp [results, Try.results36, zeroV, go_sem, t0, t1]) rfl ?_
          rw [HMS.out]
          exact ⟨_, rfl, World.ownsRow_nil _ _ _ _, zero_range, HBZ.out⟩
        | some d =>
          rw [hud] at HD1
          have hd16 := (dig_some _ _ hud).1
          have hx15 : x < 16 ^ (k % 16) := by rw [hK] at hxl; rwa [show min 16 (k - 16 * (k / 16)) = k % 16 by omega] at hxl
          have hx15' : x < 16 ^ 15 := Nat.lt_of_lt_of_le hx15 (Nat.pow_le_pow_right (by decide) (by omega))
          have hrd := n64_read x d hx15' hd16
          have hmk : m[K]'(by omega) = UInt64.ofNat x := by rw [← getD_of (by omega : K < m.length)]; exact hxm
          rw [hmk] at c0
          have HNX := Lib.hid (show Sofar s.data.toList N (k + 1) (m.set K (UInt64.ofNat (x * 16 + d))) by
            rw [hK]
            rw [hK] at hx
            exact hso.next hlt2 (by omega) (by rw [hget]; exact hud) hx hx15)
          have hKw : IntKind.i64.wrap ((k : Int) / 16) = (K : Int) := by
            rw [hK]
            simp [IntKind.wrap, IntKind.bits, IntKind.signed]
            omega
          have hKl : (K : Int) < (N : Int) := by omega
          generalize UInt64.ofNat (x * 16 + d) = nw at *
          generalize UInt64.ofNat x = xw at *
          obtain ⟨W6, hW6⟩ : ∃ W, W = wr.drew := ⟨_, rfl⟩
          have own6 : OwnsW W1.heap.size W6 (.slice (some ⟨g, 0, none⟩) N cap) m := by rw [hW6]; exact hown
          have HST := Lib.hid (show OwnsW W1.heap.size (W6.setCell ⟨g, K, none⟩ (.int .u64 (n64 nw))) (.slice (some ⟨g, 0, none⟩) N cap) (m.set K nw) by
            rw [← hml] at own6 ⊢
            exact own6.store K nw)
          have HX6 := Lib.hid (show (W6.setCell ⟨g, K, none⟩ (.int .u64 (n64 nw))).heap[X]? = some (.cells #[.int .i64 LN, .slice (some ⟨g, 0, none⟩) N cap] 25 (0, 0)) from (Below.heap_setCell W6 ⟨g, K, none⟩ (.int .u64 (n64 nw)) X (by show X ≠ g; omega)).trans (by rw [hW6]; exact hqx))
          have HR6 := Lib.hid (show (W6.setCell ⟨g, K, none⟩ (.int .u64 (n64 nw))).heap[w.heap.size]? = some (.cells #[.int .i64 0, .slice none 0 0] 25 (0, 0)) from (Below.heap_setCell W6 ⟨g, K, none⟩ (.int .u64 (n64 nw)) w.heap.size (by show w.heap.size ≠ g; omega)).trans (by rw [hW6]; exact hqr))
          have HB6 := Lib.hid (show Below w.heap.size w (W6.setCell ⟨g, K, none⟩ (.int .u64 (n64 nw))) by
            rw [hW6]
            exact (hbr.drew).setCell (p := ⟨g, K, none⟩) (by show w.heap.size ≤ g; omega) (.int .u64 (n64 nw)))
          have e0 : W6.cell? ⟨g, K, none⟩ = some (.int .u64 (n64 xw)) := by rw [hW6]; exact c0
          have e1 : W6.frozen? ⟨g, K, none⟩ = false := by rw [hW6]; exact fr0
          clear hget hK hso hx hxm hxl hmk hx15 hx15' hown own6 hqr hqx hbr hud hN0 hml
          generalize hck : s[k] = ck at *
          go_wp2_with fail
          refine (HD1.out _).mono ?_
          rintro e w4 ⟨rfl, hw⟩
          subst w4
          simp only [Option.isSome_some, Option.getD_some]
          go_wp2_with fail
          refine wp_region_still_tail 14 (by kernel_rfl) (by kernel_rfl) ?_
          simp only [List.take_succ_cons, List.take_zero, List.drop_succ_cons, List.drop_zero]
          repeat still_step
          refine wpStill_nil ?_
          change wpList _ _ _ _ _ wr.drew
          rw [← hW6]
          clear hW6 x0 x1 c0 fr0
          go_wp2
          exact ⟨⟨k + 1, m.set K nw, by omega, by go_num, HNX.out, HR6.out, HX6.out, HST.out, HB6.out⟩, by simp [intOf]; omega⟩
      · obtain rfl : k = s.size := by omega
        have HMS := Lib.hid (show BM.parseM s.data.toList = (0, LN, m) by
          rw [HMR.out, hso.words N (by have := HN.out; omega) (Nat.le_refl _), List.take_of_length_le (by omega)])
        obtain ⟨⟨y0, y1⟩, f0, f1⟩ := row2B hqr
        have HF := Lib.hid (cells_set (cells_set hqr 0 (.int .i64 LN)) 1 (.slice (some ⟨g, 0, none⟩) N cap))
        have HBF := Lib.hid ((hbr.setCell (p := ⟨w.heap.size, 0, none⟩) (Nat.le_refl _) (.int .i64 LN)).setCell (p := ⟨w.heap.size, 1, none⟩) (Nat.le_refl _) (.slice (some ⟨g, 0, none⟩) N cap))
        have HOF := Lib.hid (((hown.set (p := ⟨w.heap.size, 0, none⟩) (by show w.heap.size < W1.heap.size; omega) (.int .i64 LN)).set (p := ⟨w.heap.size, 1, none⟩) (by show w.heap.size < W1.heap.size; omega) (.slice (some ⟨g, 0, none⟩) N cap)).less (b' := w.heap.size) (by omega))
        clear hso hqr hqx hown hbr hml hk
        go_wp2
        have t0 := cell_of_row _ _ 0 _ _ _ HF.out
        have t1 := cell_of_row _ _ 1 _ _ _ HF.out
        refine bodyPost_ret (v := .tuple #[.agg #[.int .i64 LN, .slice (some ⟨g, 0, none⟩) N cap], .int .i64 0]) (by simp [results, Try.results36, go_sem, t0, t1]) rfl ?_
        rw [HMS.out]
        exact ⟨_, rfl, HOF.out, HRG.out, HBF.out⟩
end Go.Proofs.Ytfcnodiepdnegaa
