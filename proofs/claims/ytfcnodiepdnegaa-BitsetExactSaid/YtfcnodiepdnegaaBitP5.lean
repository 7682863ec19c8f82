/- The program's combine, And, Or, Xor. -/
import Derived.Test.YtfcnodiepdnegaaBitP4
namespace Go.Proofs.Ytfcnodiepdnegaa
open Go.RowKit
set_option linter.unusedVariables false
set_option maxRecDepth 100000

def IsFn (F : Nat) (f : UInt64 → UInt64 → UInt64) : Prop := (F = 45 ∧ f = fun x y => x &&& y) ∨ (F = 47 ∧ f = fun x y => x ||| y) ∨ (F = 48 ∧ f = fun x y => x ^^^ y)
set_option maxHeartbeats 2000000 in
theorem pcombine_any (F : Nat) (f : UInt64 → UInt64 → UInt64) (hf : IsFn F f) (B : Nat) (v v2 : Value) (L L2 : Int) (l l2 : List UInt64) (w : World) (ha : IsBits B w v L l) (hb : IsBits B w v2 L2 l2) (hB : B ≤ w.heap.size) :
    Calls Try.prog 44 #[v, v2, .func (.func F) #[] #[]] w fun e w' => Made w (BM.combM f L l L2 l2) e w' := by
  obtain ⟨A, c, rfl, HA, h1, h2, hL, -⟩ := ha.open_
  obtain ⟨A2, c2, rfl, HB2, h3, h4, hL2, HCB⟩ := hb.open_
  clear ha hb
  have HV := Lib.hid (fun W h hB => pValid_any B (.agg #[.int .i64 L, .slice A l.length c]) L l W trivial h hB)
  have HV2 := Lib.hid (fun W h hB => pValid_any B (.agg #[.int .i64 L2, .slice A2 l2.length c2]) L2 l2 W trivial h hB)
  have HC := Lib.hid (fun W h hB hok => pduplicate_any B (.agg #[.int .i64 L, .slice A l.length c]) L l W h hB hok)
  have hqa : (((w.alloc (.cells #[.int .i64 L, .slice A l.length c] 25)).alloc (.cells #[.int .i64 L2, .slice A2 l2.length c2] 25)).alloc (.cells #[.int .i64 0, .slice none 0 0] 25)).heap[w.heap.size]? = _ := (Below.heap_alloc _ _ _ (by simp; omega)).trans ((Below.heap_alloc _ _ _ (by simp)).trans (heap_alloc_new w (.cells #[.int .i64 L, .slice A l.length c] 25)))
  have hqb : (((w.alloc (.cells #[.int .i64 L, .slice A l.length c] 25)).alloc (.cells #[.int .i64 L2, .slice A2 l2.length c2] 25)).alloc (.cells #[.int .i64 0, .slice none 0 0] 25)).heap[w.heap.size + 1]? = _ := (Below.heap_alloc _ _ _ (by simp)).trans (heap_two8 w (.cells #[.int .i64 L, .slice A l.length c] 25) #[.int .i64 L2, .slice A2 l2.length c2] 25)
  have hqr : (((w.alloc (.cells #[.int .i64 L, .slice A l.length c] 25)).alloc (.cells #[.int .i64 L2, .slice A2 l2.length c2] 25)).alloc (.cells #[.int .i64 0, .slice none 0 0] 25)).heap[w.heap.size + 2]? = some (.cells #[.int .i64 0, .slice none 0 0] 25 (0, 0)) := by
    have := heap_alloc_new ((w.alloc (.cells #[.int .i64 L, .slice A l.length c] 25)).alloc (.cells #[.int .i64 L2, .slice A2 l2.length c2] 25)) (.cells #[.int .i64 0, .slice none 0 0] 25)
    rwa [World.size_alloc, World.size_alloc] at this
  have hbw : Below w.heap.size w (((w.alloc (.cells #[.int .i64 L, .slice A l.length c] 25)).alloc (.cells #[.int .i64 L2, .slice A2 l2.length c2] 25)).alloc (.cells #[.int .i64 0, .slice none 0 0] 25)) := (two_new8 w _ _).alloc (by simp; omega) _
  have hs1 : w.heap.size + 3 = (((w.alloc (.cells #[.int .i64 L, .slice A l.length c] 25)).alloc (.cells #[.int .i64 L2, .slice A2 l2.length c2] 25)).alloc (.cells #[.int .i64 0, .slice none 0 0] 25)).heap.size := by simp
  have HOP := Lib.hid hf
  clear hf
  go_enter Try.func44, Try.ntmps44
  go_wp2_with fail
  generalize ((w.alloc (.cells #[.int .i64 L, .slice A l.length c] 25)).alloc (.cells #[.int .i64 L2, .slice A2 l2.length c2] 25)).alloc (.cells #[.int .i64 0, .slice none 0 0] 25) = W1 at *
  refine (HV.out _ (HA.out.keep (hbw.mono hB)) (by omega)).mono ?_
  rintro e w2 ⟨rfl, b2⟩
  have hbc := same_of hbw b2
  have hqa := (b2.block w.heap.size (by omega)).trans hqa
  have hqb := (b2.block (w.heap.size + 1) (by omega)).trans hqb
  have hqr := (b2.block (w.heap.size + 2) (by omega)).trans hqr
  have hs2 : w.heap.size + 3 ≤ w2.heap.size := by have := b2.size; omega
  clear b2 hbw hs1
  have x0 : w2.cell? ⟨w.heap.size, 0, none⟩ = some (.int .i64 L) := by rw [cell_of_row _ _ _ _ _ _ hqa]; rfl
  have x1 : w2.cell? ⟨w.heap.size, 1, none⟩ = some (.slice A l.length c) := by rw [cell_of_row _ _ _ _ _ _ hqa]; rfl
  have u0 : w2.cell? ⟨w.heap.size + 1, 0, none⟩ = some (.int .i64 L2) := by rw [cell_of_row _ _ _ _ _ _ hqb]; rfl
  have u1 : w2.cell? ⟨w.heap.size + 1, 1, none⟩ = some (.slice A2 l2.length c2) := by rw [cell_of_row _ _ _ _ _ _ hqb]; rfl
  have y0 : w2.cell? ⟨w.heap.size + 2, 0, none⟩ = some (.int .i64 0) := by rw [cell_of_row _ _ _ _ _ _ hqr]; rfl
  have y1 : w2.cell? ⟨w.heap.size + 2, 1, none⟩ = some (.slice none 0 0) := by rw [cell_of_row _ _ _ _ _ _ hqr]; rfl
  have f0 := Lib.frozen_of_heap hqr 0
  have f1 := Lib.frozen_of_heap hqr 1
  cases hok : BM.okB L l
  · clear HA HB2 HCB HV HV2 HC
    have HZ := Lib.hid (cells_set (cells_set hqr 0 (.int .i64 0)) 1 (.slice none 0 0))
    have HBZ := Lib.hid ((hbc.setCell (p := ⟨w.heap.size + 2, 0, none⟩) (by show w.heap.size ≤ w.heap.size + 2; omega) (.int .i64 0)).setCell (p := ⟨w.heap.size + 2, 1, none⟩) (by show w.heap.size ≤ w.heap.size + 2; omega) (.slice none 0 0))
    have HMR := Lib.hid (show BM.combM f L l L2 l2 = (8, 0, []) by unfold BM.combM; rw [hok]; rfl)
    go_wp2
    have t0 := cell_of_row _ _ 0 _ _ _ HZ.out
    have t1 := cell_of_row _ _ 1 _ _ _ HZ.out
    refine bodyPost_ret (v := .tuple #[zeroV, .int .i64 8]) (by simp [results, Try.results44, zeroV, go_sem, t0, t1]) rfl ?_
    rw [HMR.out]
    exact ⟨_, rfl, World.ownsRow_nil _ _ _ _, zero_range, HBZ.out⟩
  · go_wp2_with fail
    refine (HV2.out _ (HB2.out.keep (hbc.mono hB)) (by omega)).mono ?_
    rintro e w3 ⟨rfl, b3⟩
    have hbc := same_of hbc b3
    clear x0 x1 u0 u1 y0 y1 f0 f1
    have hqa := (b3.block w.heap.size (by omega)).trans hqa
    have hqb := (b3.block (w.heap.size + 1) (by omega)).trans hqb
    have hqr := (b3.block (w.heap.size + 2) (by omega)).trans hqr
    have hs3 : w.heap.size + 3 ≤ w3.heap.size := by have := b3.size; omega
    clear b3
    have x0 : w3.cell? ⟨w.heap.size, 0, none⟩ = some (.int .i64 L) := by rw [cell_of_row _ _ _ _ _ _ hqa]; rfl
    have x1 : w3.cell? ⟨w.heap.size, 1, none⟩ = some (.slice A l.length c) := by rw [cell_of_row _ _ _ _ _ _ hqa]; rfl
    have u0 : w3.cell? ⟨w.heap.size + 1, 0, none⟩ = some (.int .i64 L2) := by rw [cell_of_row _ _ _ _ _ _ hqb]; rfl
    have u1 : w3.cell? ⟨w.heap.size + 1, 1, none⟩ = some (.slice A2 l2.length c2) := by rw [cell_of_row _ _ _ _ _ _ hqb]; rfl
    have y0 : w3.cell? ⟨w.heap.size + 2, 0, none⟩ = some (.int .i64 0) := by rw [cell_of_row _ _ _ _ _ _ hqr]; rfl
    have y1 : w3.cell? ⟨w.heap.size + 2, 1, none⟩ = some (.slice none 0 0) := by rw [cell_of_row _ _ _ _ _ _ hqr]; rfl
    have f0 := Lib.frozen_of_heap hqr 0
    have f1 := Lib.frozen_of_heap hqr 1
    cases hok2 : BM.okB L2 l2
    · clear HA HB2 HCB HV HV2 HC
      have HZ := Lib.hid (cells_set (cells_set hqr 0 (.int .i64 0)) 1 (.slice none 0 0))
      have HBZ := Lib.hid ((hbc.setCell (p := ⟨w.heap.size + 2, 0, none⟩) (by show w.heap.size ≤ w.heap.size + 2; omega) (.int .i64 0)).setCell (p := ⟨w.heap.size + 2, 1, none⟩) (by show w.heap.size ≤ w.heap.size + 2; omega) (.slice none 0 0))
      have HMR := Lib.hid (show BM.combM f L l L2 l2 = (8, 0, []) by unfold BM.combM; rw [hok, hok2]; rfl)
      go_wp2
      have t0 := cell_of_row _ _ 0 _ _ _ HZ.out
      have t1 := cell_of_row _ _ 1 _ _ _ HZ.out
      refine bodyPost_ret (v := .tuple #[zeroV, .int .i64 8]) (by simp [results, Try.results44, zeroV, go_sem, t0, t1]) rfl ?_
      rw [HMR.out]
      exact ⟨_, rfl, World.ownsRow_nil _ _ _ _, zero_range, HBZ.out⟩
    · by_cases hLL : L = L2
      · obtain ⟨hne, hl9⟩ := okB_ne hok
        have hlen : l.length = l2.length ∧ l.length ≤ 8 := by
          have e1 := hok
          have e2 := hok2
          rw [BM.okB_iff] at e1 e2
          omega
        have HMR := Lib.hid (show BM.combM f L l L2 l2 = (0, L, List.zipWith f l l2) by unfold BM.combM; rw [hok, hok2, decide_eq_true hLL]; rfl)
        have HLEN := Lib.hid hlen
        have HOK := Lib.hid hok
        clear hok hok2 hlen
        have hbc2 := Lib.hid hbc
        subst hLL
        go_wp2_with fail
        refine (HC.out _ (HA.out.keep (hbc.mono hB)) (by omega) HOK.out).mono ?_
        rintro e w4 ⟨u, rfl, own4, b4⟩
        obtain ⟨g, cap, rfl, hg, hg2, hcap, hcap2⟩ := own4.form hne
        unfold maxLen at hcap2
        have hs4 := b4.size
        have hqb5 := (Below.heap_alloc w4 (.cells #[.int .i64 L, .slice (some ⟨g, 0, none⟩) l.length cap] 25) (w.heap.size + 1) (by omega)).trans ((b4.block (w.heap.size + 1) (by omega)).trans hqb)
        have hqr5 := (Below.heap_alloc w4 (.cells #[.int .i64 L, .slice (some ⟨g, 0, none⟩) l.length cap] 25) (w.heap.size + 2) (by omega)).trans ((b4.block (w.heap.size + 2) (by omega)).trans hqr)
        have hX5 := heap_alloc_new w4 (.cells #[.int .i64 L, .slice (some ⟨g, 0, none⟩) l.length cap] 25)
        have own5 : OwnsW w3.heap.size (w4.alloc (.cells #[.int .i64 L, .slice (some ⟨g, 0, none⟩) l.length cap] 25)) (.slice (some ⟨g, 0, none⟩) l.length cap) l := own4.keep ((Below.refl _ w4).alloc (Nat.le_refl _) _)
        have hb5 := (same_of hbc b4).alloc (by omega) (.cells #[.int .i64 L, .slice (some ⟨g, 0, none⟩) l.length cap] 25)
        have hs5 : w4.heap.size + 1 = (w4.alloc (.cells #[.int .i64 L, .slice (some ⟨g, 0, none⟩) l.length cap] 25)).heap.size := by simp
        have uu1 : (w4.alloc (.cells #[.int .i64 L, .slice (some ⟨g, 0, none⟩) l.length cap] 25)).cell? ⟨w.heap.size + 1, 1, none⟩ = some (.slice A2 l2.length c2) := by rw [cell_of_row _ _ _ _ _ _ hqb5]; rfl
        go_wp2_with fail
        generalize w4.alloc (.cells #[.int .i64 L, .slice (some ⟨g, 0, none⟩) l.length cap] 25) = W5 at *
        generalize w4.heap.size = X at *
        have HW5 := Lib.hid (And.intro hqb5 (And.intro hqr5 (And.intro hX5 (And.intro own5 hb5))))
        clear x0 x1 u0 u1 y0 y1 f0 f1 hqa hqb hqr own4 b4 hqb5 hqr5 hX5 own5 hb5 hbc hbc2 HA HV HV2 HC HB2
        go_loopw [32] (fun iv wr => ∃ (k : Nat) (m : List UInt64), k ≤ l.length ∧ iv = .int .i64 k ∧ Half f l l2 m k ∧ wr.heap[w.heap.size + 2]? = some (.cells #[.int .i64 0, .slice none 0 0] 25 (0, 0)) ∧ wr.heap[X]? = some (.cells #[.int .i64 L, .slice (some ⟨g, 0, none⟩) l.length cap] 25 (0, 0)) ∧ OwnsW w3.heap.size wr (.slice (some ⟨g, 0, none⟩) l.length cap) m ∧ Below w.heap.size w wr) (fun iv _ => l.length - (intOf iv).toNat)
        case atStart => exact ⟨0, l, Nat.zero_le _, rfl, half_start f l l2, HW5.out.2.1, HW5.out.2.2.1, HW5.out.2.2.2.1, HW5.out.2.2.2.2⟩
        case round =>
          obtain ⟨k, m, hk, rfl, hhalf, hqr, hqx, hown, hbr⟩ := hrel
          have HH := Lib.hid hhalf
          have hml := hhalf.1
          have hlen := HLEN.out
          have x0 : wr.cell? ⟨X, 0, none⟩ = some (.int .i64 L) := by rw [cell_of_row _ _ _ _ _ _ hqx]; rfl
          have x1 : wr.cell? ⟨X, 1, none⟩ = some (.slice (some ⟨g, 0, none⟩) l.length cap) := by rw [cell_of_row _ _ _ _ _ _ hqx]; rfl
          by_cases hlt : k < l.length
          · have hk2 : k < l2.length := by omega
            obtain ⟨bb, oo, rfl, hbB, d0⟩ := HCB.out k hk2
            have d1 := (hbr.cell (p := ⟨bb, oo + k, none⟩) (by show bb < w.heap.size; omega)).trans d0
            obtain ⟨c0, fr0⟩ := hown.cellAt k (by omega) (by omega)
            have hmk : m[k]'(by omega) = l[k] := by
              have := hhalf.2.2 k (Nat.le_refl _)
              rw [getD_of (by omega : k < m.length), getD_of hlt] at this
              exact this
            rw [hmk] at c0
            have i1 : (k : Int) < (l.length : Int) := by omega
            have i2 : (k : Int) < (l2.length : Int) := by omega
            obtain ⟨nw, hnw⟩ : ∃ nw, nw = f l[k] l2[k] := ⟨_, rfl⟩
            have HN := Lib.hid (show Half f l l2 (m.set k nw) (k + 1) by
              have := hhalf.next hlt
              rw [getD_of hlt, getD_of hk2, ← hnw] at this
              exact this)
            obtain ⟨W6, hW6⟩ : ∃ W, W = wr.drew := ⟨_, rfl⟩
            have own6 : OwnsW w3.heap.size W6 (.slice (some ⟨g, 0, none⟩) l.length cap) m := by rw [hW6]; exact hown
            have HST := Lib.hid (show OwnsW w3.heap.size (W6.setCell ⟨g, k, none⟩ (.int .u64 (n64 nw))) (.slice (some ⟨g, 0, none⟩) l.length cap) (m.set k nw) by
              have e : l.length = m.length := by omega
              rw [e] at own6 ⊢
              exact own6.store k nw)
            have HX6 := Lib.hid (show (W6.setCell ⟨g, k, none⟩ (.int .u64 (n64 nw))).heap[X]? = some (.cells #[.int .i64 L, .slice (some ⟨g, 0, none⟩) l.length cap] 25 (0, 0)) from (Below.heap_setCell W6 ⟨g, k, none⟩ (.int .u64 (n64 nw)) X (by show X ≠ g; omega)).trans (by rw [hW6]; exact hqx))
            have HR6 := Lib.hid (show (W6.setCell ⟨g, k, none⟩ (.int .u64 (n64 nw))).heap[w.heap.size + 2]? = some (.cells #[.int .i64 0, .slice none 0 0] 25 (0, 0)) from (Below.heap_setCell W6 ⟨g, k, none⟩ (.int .u64 (n64 nw)) (w.heap.size + 2) (by show w.heap.size + 2 ≠ g; omega)).trans (by rw [hW6]; exact hqr))
            have HB6 := Lib.hid (show Below w.heap.size w (W6.setCell ⟨g, k, none⟩ (.int .u64 (n64 nw))) by
              rw [hW6]
              exact (hbr.drew).setCell (p := ⟨g, k, none⟩) (by show w.heap.size ≤ g; omega) (.int .u64 (n64 nw)))
            have e0 : W6.cell? ⟨g, k, none⟩ = some (.int .u64 (n64 l[k])) := by rw [hW6]; exact c0
            have e1 : W6.frozen? ⟨g, k, none⟩ = false := by rw [hW6]; exact fr0
            generalize l2[k] = ky at *
            generalize l[k] = kx at *
            have HFN : Hid (∀ W, Calls Try.prog F #[.int .u64 (n64 kx), .int .u64 (n64 ky)] W fun e w' => e = .returned (.int .u64 (n64 nw)) ∧ w' = W) := by
              rcases HOP.out with ⟨rfl, hf⟩ | ⟨rfl, hf⟩ | ⟨rfl, hf⟩
              · rw [hnw, hf]
                exact fun W => and_any kx ky W
              · rw [hnw, hf]
                exact fun W => or_any kx ky W
              · rw [hnw, hf]
                exact fun W => xor_any kx ky W
            clear hnw hmk d0 hown own6 hqr hqx hbr hhalf hml hlen
            have hF3 : F = 45 ∨ F = 47 ∨ F = 48 := by
              rcases HOP.out with ⟨h, -⟩ | ⟨h, -⟩ | ⟨h, -⟩
              · exact .inl h
              · exact .inr (.inl h)
              · exact .inr (.inr h)
            rcases hF3 with rfl | rfl | rfl
            all_goals
              go_wp2_with fail
              refine wp_region_still_tail 12 (by kernel_rfl) (by kernel_rfl) ?_
              simp only [List.take_succ_cons, List.take_zero, List.drop_succ_cons, List.drop_zero]
              repeat still_step
              still_call (HFN.out _)
              repeat still_step
              refine wpStill_nil ?_
              change wpList _ _ _ _ _ wr.drew
              rw [← hW6]
              clear hW6 x0 x1 c0 fr0 d1
              go_wp2
              exact ⟨⟨k + 1, m.set k nw, by omega, by go_num, HN.out, HR6.out, HX6.out, HST.out, HB6.out⟩, by simp [intOf]; omega⟩
          · obtain rfl : k = l.length := by omega
            have HDONE := Lib.hid (hhalf.done hlen.1)
            have hnl : ¬ (l.length < l2.length) := by omega
            have y0 : wr.cell? ⟨w.heap.size + 2, 0, none⟩ = some (.int .i64 0) := by rw [cell_of_row _ _ _ _ _ _ hqr]; rfl
            have y1 : wr.cell? ⟨w.heap.size + 2, 1, none⟩ = some (.slice none 0 0) := by rw [cell_of_row _ _ _ _ _ _ hqr]; rfl
            have f0 := Lib.frozen_of_heap hqr 0
            have f1 := Lib.frozen_of_heap hqr 1
            have HF := Lib.hid (cells_set (cells_set hqr 0 (.int .i64 L)) 1 (.slice (some ⟨g, 0, none⟩) l.length cap))
            have HBF := Lib.hid ((hbr.setCell (p := ⟨w.heap.size + 2, 0, none⟩) (by show w.heap.size ≤ w.heap.size + 2; omega) (.int .i64 L)).setCell (p := ⟨w.heap.size + 2, 1, none⟩) (by show w.heap.size ≤ w.heap.size + 2; omega) (.slice (some ⟨g, 0, none⟩) l.length cap))
            have HOF := Lib.hid (((hown.set (p := ⟨w.heap.size + 2, 0, none⟩) (by show w.heap.size + 2 < w3.heap.size; omega) (.int .i64 L)).set (p := ⟨w.heap.size + 2, 1, none⟩) (by show w.heap.size + 2 < w3.heap.size; omega) (.slice (some ⟨g, 0, none⟩) l.length cap)).less (b' := w.heap.size) (by omega))
            clear hlen hml hhalf hqr hqx hown hbr
            go_wp2
            have t0 := cell_of_row _ _ 0 _ _ _ HF.out
            have t1 := cell_of_row _ _ 1 _ _ _ HF.out
            refine bodyPost_ret (v := .tuple #[.agg #[.int .i64 L, .slice (some ⟨g, 0, none⟩) l.length cap], .int .i64 0]) (by simp [results, Try.results44, go_sem, t0, t1]) rfl ?_
            rw [HMR.out, ← HDONE.out]
            exact ⟨_, rfl, HOF.out, hL, HBF.out⟩
      · clear HA HB2 HCB HV HV2 HC
        have HZ := Lib.hid (cells_set (cells_set hqr 0 (.int .i64 0)) 1 (.slice none 0 0))
        have HBZ := Lib.hid ((hbc.setCell (p := ⟨w.heap.size + 2, 0, none⟩) (by show w.heap.size ≤ w.heap.size + 2; omega) (.int .i64 0)).setCell (p := ⟨w.heap.size + 2, 1, none⟩) (by show w.heap.size ≤ w.heap.size + 2; omega) (.slice none 0 0))
        have HMR := Lib.hid (show BM.combM f L l L2 l2 = (8, 0, []) by unfold BM.combM; rw [hok, hok2, decide_eq_false hLL]; rfl)
        go_wp2
        have t0 := cell_of_row _ _ 0 _ _ _ HZ.out
        have t1 := cell_of_row _ _ 1 _ _ _ HZ.out
        refine bodyPost_ret (v := .tuple #[zeroV, .int .i64 8]) (by simp [results, Try.results44, zeroV, go_sem, t0, t1]) rfl ?_
        rw [HMR.out]
        exact ⟨_, rfl, World.ownsRow_nil _ _ _ _, zero_range, HBZ.out⟩

set_option maxHeartbeats 1000000 in
theorem pAnd_any (B : Nat) (v : Value) (v2 : Value) (L : Int) (l : List UInt64) (L2 : Int) (l2 : List UInt64) (w : World) (_ : PEnv w) (ha : IsBits B w v L l) (hb : IsBits B w v2 L2 l2) (hB : B ≤ w.heap.size) :
    Calls Try.prog 16 #[v, v2] w fun e w' => Made w (BM.combM (fun x y => x &&& y) L l L2 l2) e w' := by
  obtain ⟨A, c, rfl, HA, -⟩ := ha.open_
  obtain ⟨A2, c2, rfl, HB2, -⟩ := hb.open_
  clear ha hb
  have HC := Lib.hid (fun W h1 h2 hB => pcombine_any 45 (fun x y => x &&& y) (.inl ⟨rfl, rfl⟩) B (.agg #[.int .i64 L, .slice A l.length c]) (.agg #[.int .i64 L2, .slice A2 l2.length c2]) L L2 l l2 W h1 h2 hB)
  generalize BM.combM (fun x y => x &&& y) L l L2 l2 = R at *
  have hbw : Below w.heap.size w (((w.alloc (.cells #[.int .i64 L, .slice A l.length c] 25)).alloc (.cells #[.int .i64 L2, .slice A2 l2.length c2] 25)).alloc (.cells #[.int .i64 0, .slice none 0 0] 25)) := (two_new8 w _ _).alloc (by simp; omega) _
  have hqr : (((w.alloc (.cells #[.int .i64 L, .slice A l.length c] 25)).alloc (.cells #[.int .i64 L2, .slice A2 l2.length c2] 25)).alloc (.cells #[.int .i64 0, .slice none 0 0] 25)).heap[w.heap.size + 2]? = some (.cells #[.int .i64 0, .slice none 0 0] 25 (0, 0)) := by
    have := heap_alloc_new ((w.alloc (.cells #[.int .i64 L, .slice A l.length c] 25)).alloc (.cells #[.int .i64 L2, .slice A2 l2.length c2] 25)) (.cells #[.int .i64 0, .slice none 0 0] 25)
    rwa [World.size_alloc, World.size_alloc] at this
  have hs1 : w.heap.size + 3 = (((w.alloc (.cells #[.int .i64 L, .slice A l.length c] 25)).alloc (.cells #[.int .i64 L2, .slice A2 l2.length c2] 25)).alloc (.cells #[.int .i64 0, .slice none 0 0] 25)).heap.size := by simp
  go_enter Try.func16, Try.ntmps16
  go_wp2_with fail
  generalize ((w.alloc (.cells #[.int .i64 L, .slice A l.length c] 25)).alloc (.cells #[.int .i64 L2, .slice A2 l2.length c2] 25)).alloc (.cells #[.int .i64 0, .slice none 0 0] 25) = W1 at *
  refine (HC.out _ (HA.out.keep (hbw.mono hB)) (HB2.out.keep (hbw.mono hB)) (by omega)).mono ?_
  rintro e w2 ⟨u, rfl, hu, hrg, b2⟩
  have hqr2 := (b2.block (w.heap.size + 2) (by omega)).trans hqr
  have hb2 := same_of hbw b2
  have hs2 := b2.size
  obtain ⟨A3, c3, rfl⟩ := hu.slice_
  have HF := Lib.hid (cells_set (cells_set hqr2 0 (.int .i64 R.2.1)) 1 (.slice A3 R.2.2.length c3))
  have HBF := Lib.hid ((hb2.setCell (p := ⟨w.heap.size + 2, 0, none⟩) (by show w.heap.size ≤ w.heap.size + 2; omega) (.int .i64 R.2.1)).setCell (p := ⟨w.heap.size + 2, 1, none⟩) (by show w.heap.size ≤ w.heap.size + 2; omega) (.slice A3 R.2.2.length c3))
  have HOF := Lib.hid (((hu.set (p := ⟨w.heap.size + 2, 0, none⟩) (by show w.heap.size + 2 < W1.heap.size; omega) (.int .i64 R.2.1)).set (p := ⟨w.heap.size + 2, 1, none⟩) (by show w.heap.size + 2 < W1.heap.size; omega) (.slice A3 R.2.2.length c3)).less (b' := w.heap.size) (by omega))
  clear hu b2 hqr hbw HA HB2 HC
  have y0 : w2.cell? ⟨w.heap.size + 2, 0, none⟩ = some (.int .i64 0) := by rw [cell_of_row _ _ _ _ _ _ hqr2]; rfl
  have y1 : w2.cell? ⟨w.heap.size + 2, 1, none⟩ = some (.slice none 0 0) := by rw [cell_of_row _ _ _ _ _ _ hqr2]; rfl
  have f0 := Lib.frozen_of_heap hqr2 0
  have f1 := Lib.frozen_of_heap hqr2 1
  obtain ⟨RC, RL, RW⟩ := R
  try simp only at HF HBF HOF hrg ⊢
  go_wp2
  have t0 := cell_of_row _ _ 0 _ _ _ HF.out
  have t1 := cell_of_row _ _ 1 _ _ _ HF.out
  exact bodyPost_ret (v := .tuple #[.agg #[.int .i64 RL, .slice A3 RW.length c3], .int .i64 RC]) (by simp [results, Try.results16, go_sem, t0, t1]) rfl ⟨_, rfl, HOF.out, hrg, HBF.out⟩
set_option maxHeartbeats 1000000 in
theorem pOr_any (B : Nat) (v : Value) (v2 : Value) (L : Int) (l : List UInt64) (L2 : Int) (l2 : List UInt64) (w : World) (_ : PEnv w) (ha : IsBits B w v L l) (hb : IsBits B w v2 L2 l2) (hB : B ≤ w.heap.size) :
    Calls Try.prog 18 #[v, v2] w fun e w' => Made w (BM.combM (fun x y => x ||| y) L l L2 l2) e w' := by
  obtain ⟨A, c, rfl, HA, -⟩ := ha.open_
  obtain ⟨A2, c2, rfl, HB2, -⟩ := hb.open_
  clear ha hb
  have HC := Lib.hid (fun W h1 h2 hB => pcombine_any 47 (fun x y => x ||| y) (.inr (.inl ⟨rfl, rfl⟩)) B (.agg #[.int .i64 L, .slice A l.length c]) (.agg #[.int .i64 L2, .slice A2 l2.length c2]) L L2 l l2 W h1 h2 hB)
  generalize BM.combM (fun x y => x ||| y) L l L2 l2 = R at *
  have hbw : Below w.heap.size w (((w.alloc (.cells #[.int .i64 L, .slice A l.length c] 25)).alloc (.cells #[.int .i64 L2, .slice A2 l2.length c2] 25)).alloc (.cells #[.int .i64 0, .slice none 0 0] 25)) := (two_new8 w _ _).alloc (by simp; omega) _
  have hqr : (((w.alloc (.cells #[.int .i64 L, .slice A l.length c] 25)).alloc (.cells #[.int .i64 L2, .slice A2 l2.length c2] 25)).alloc (.cells #[.int .i64 0, .slice none 0 0] 25)).heap[w.heap.size + 2]? = some (.cells #[.int .i64 0, .slice none 0 0] 25 (0, 0)) := by
    have := heap_alloc_new ((w.alloc (.cells #[.int .i64 L, .slice A l.length c] 25)).alloc (.cells #[.int .i64 L2, .slice A2 l2.length c2] 25)) (.cells #[.int .i64 0, .slice none 0 0] 25)
    rwa [World.size_alloc, World.size_alloc] at this
  have hs1 : w.heap.size + 3 = (((w.alloc (.cells #[.int .i64 L, .slice A l.length c] 25)).alloc (.cells #[.int .i64 L2, .slice A2 l2.length c2] 25)).alloc (.cells #[.int .i64 0, .slice none 0 0] 25)).heap.size := by simp
  go_enter Try.func18, Try.ntmps18
  go_wp2_with fail
  generalize ((w.alloc (.cells #[.int .i64 L, .slice A l.length c] 25)).alloc (.cells #[.int .i64 L2, .slice A2 l2.length c2] 25)).alloc (.cells #[.int .i64 0, .slice none 0 0] 25) = W1 at *
  refine (HC.out _ (HA.out.keep (hbw.mono hB)) (HB2.out.keep (hbw.mono hB)) (by omega)).mono ?_
  rintro e w2 ⟨u, rfl, hu, hrg, b2⟩
  have hqr2 := (b2.block (w.heap.size + 2) (by omega)).trans hqr
  have hb2 := same_of hbw b2
  have hs2 := b2.size
  obtain ⟨A3, c3, rfl⟩ := hu.slice_
  have HF := Lib.hid (cells_set (cells_set hqr2 0 (.int .i64 R.2.1)) 1 (.slice A3 R.2.2.length c3))
  have HBF := Lib.hid ((hb2.setCell (p := ⟨w.heap.size + 2, 0, none⟩) (by show w.heap.size ≤ w.heap.size + 2; omega) (.int .i64 R.2.1)).setCell (p := ⟨w.heap.size + 2, 1, none⟩) (by show w.heap.size ≤ w.heap.size + 2; omega) (.slice A3 R.2.2.length c3))
  have HOF := Lib.hid (((hu.set (p := ⟨w.heap.size + 2, 0, none⟩) (by show w.heap.size + 2 < W1.heap.size; omega) (.int .i64 R.2.1)).set (p := ⟨w.heap.size + 2, 1, none⟩) (by show w.heap.size + 2 < W1.heap.size; omega) (.slice A3 R.2.2.length c3)).less (b' := w.heap.size) (by omega))
  clear hu b2 hqr hbw HA HB2 HC
  have y0 : w2.cell? ⟨w.heap.size + 2, 0, none⟩ = some (.int .i64 0) := by rw [cell_of_row _ _ _ _ _ _ hqr2]; rfl
  have y1 : w2.cell? ⟨w.heap.size + 2, 1, none⟩ = some (.slice none 0 0) := by rw [cell_of_row _ _ _ _ _ _ hqr2]; rfl
  have f0 := Lib.frozen_of_heap hqr2 0
  have f1 := Lib.frozen_of_heap hqr2 1
  obtain ⟨RC, RL, RW⟩ := R
  try simp only at HF HBF HOF hrg ⊢
  go_wp2
  have t0 := cell_of_row _ _ 0 _ _ _ HF.out
  have t1 := cell_of_row _ _ 1 _ _ _ HF.out
  exact bodyPost_ret (v := .tuple #[.agg #[.int .i64 RL, .slice A3 RW.length c3], .int .i64 RC]) (by simp [results, Try.results18, go_sem, t0, t1]) rfl ⟨_, rfl, HOF.out, hrg, HBF.out⟩
set_option maxHeartbeats 1000000 in
theorem pXor_any (B : Nat) (v : Value) (v2 : Value) (L : Int) (l : List UInt64) (L2 : Int) (l2 : List UInt64) (w : World) (_ : PEnv w) (ha : IsBits B w v L l) (hb : IsBits B w v2 L2 l2) (hB : B ≤ w.heap.size) :
    Calls Try.prog 20 #[v, v2] w fun e w' => Made w (BM.combM (fun x y => x ^^^ y) L l L2 l2) e w' := by
  obtain ⟨A, c, rfl, HA, -⟩ := ha.open_
  obtain ⟨A2, c2, rfl, HB2, -⟩ := hb.open_
  clear ha hb
  have HC := Lib.hid (fun W h1 h2 hB => pcombine_any 48 (fun x y => x ^^^ y) (.inr (.inr ⟨rfl, rfl⟩)) B (.agg #[.int .i64 L, .slice A l.length c]) (.agg #[.int .i64 L2, .slice A2 l2.length c2]) L L2 l l2 W h1 h2 hB)
  generalize BM.combM (fun x y => x ^^^ y) L l L2 l2 = R at *
  have hbw : Below w.heap.size w (((w.alloc (.cells #[.int .i64 L, .slice A l.length c] 25)).alloc (.cells #[.int .i64 L2, .slice A2 l2.length c2] 25)).alloc (.cells #[.int .i64 0, .slice none 0 0] 25)) := (two_new8 w _ _).alloc (by simp; omega) _
  have hqr : (((w.alloc (.cells #[.int .i64 L, .slice A l.length c] 25)).alloc (.cells #[.int .i64 L2, .slice A2 l2.length c2] 25)).alloc (.cells #[.int .i64 0, .slice none 0 0] 25)).heap[w.heap.size + 2]? = some (.cells #[.int .i64 0, .slice none 0 0] 25 (0, 0)) := by
    have := heap_alloc_new ((w.alloc (.cells #[.int .i64 L, .slice A l.length c] 25)).alloc (.cells #[.int .i64 L2, .slice A2 l2.length c2] 25)) (.cells #[.int .i64 0, .slice none 0 0] 25)
    rwa [World.size_alloc, World.size_alloc] at this
  have hs1 : w.heap.size + 3 = (((w.alloc (.cells #[.int .i64 L, .slice A l.length c] 25)).alloc (.cells #[.int .i64 L2, .slice A2 l2.length c2] 25)).alloc (.cells #[.int .i64 0, .slice none 0 0] 25)).heap.size := by simp
  go_enter Try.func20, Try.ntmps20
  go_wp2_with fail
  generalize ((w.alloc (.cells #[.int .i64 L, .slice A l.length c] 25)).alloc (.cells #[.int .i64 L2, .slice A2 l2.length c2] 25)).alloc (.cells #[.int .i64 0, .slice none 0 0] 25) = W1 at *
  refine (HC.out _ (HA.out.keep (hbw.mono hB)) (HB2.out.keep (hbw.mono hB)) (by omega)).mono ?_
  rintro e w2 ⟨u, rfl, hu, hrg, b2⟩
  have hqr2 := (b2.block (w.heap.size + 2) (by omega)).trans hqr
  have hb2 := same_of hbw b2
  have hs2 := b2.size
  obtain ⟨A3, c3, rfl⟩ := hu.slice_
  have HF := Lib.hid (cells_set (cells_set hqr2 0 (.int .i64 R.2.1)) 1 (.slice A3 R.2.2.length c3))
  have HBF := Lib.hid ((hb2.setCell (p := ⟨w.heap.size + 2, 0, none⟩) (by show w.heap.size ≤ w.heap.size + 2; omega) (.int .i64 R.2.1)).setCell (p := ⟨w.heap.size + 2, 1, none⟩) (by show w.heap.size ≤ w.heap.size + 2; omega) (.slice A3 R.2.2.length c3))
  have HOF := Lib.hid (((hu.set (p := ⟨w.heap.size + 2, 0, none⟩) (by show w.heap.size + 2 < W1.heap.size; omega) (.int .i64 R.2.1)).set (p := ⟨w.heap.size + 2, 1, none⟩) (by show w.heap.size + 2 < W1.heap.size; omega) (.slice A3 R.2.2.length c3)).less (b' := w.heap.size) (by omega))
  clear hu b2 hqr hbw HA HB2 HC
  have y0 : w2.cell? ⟨w.heap.size + 2, 0, none⟩ = some (.int .i64 0) := by rw [cell_of_row _ _ _ _ _ _ hqr2]; rfl
  have y1 : w2.cell? ⟨w.heap.size + 2, 1, none⟩ = some (.slice none 0 0) := by rw [cell_of_row _ _ _ _ _ _ hqr2]; rfl
  have f0 := Lib.frozen_of_heap hqr2 0
  have f1 := Lib.frozen_of_heap hqr2 1
  obtain ⟨RC, RL, RW⟩ := R
  try simp only at HF HBF HOF hrg ⊢
  go_wp2
  have t0 := cell_of_row _ _ 0 _ _ _ HF.out
  have t1 := cell_of_row _ _ 1 _ _ _ HF.out
  exact bodyPost_ret (v := .tuple #[.agg #[.int .i64 RL, .slice A3 RW.length c3], .int .i64 RC]) (by simp [results, Try.results20, go_sem, t0, t1]) rfl ⟨_, rfl, HOF.out, hrg, HBF.out⟩
end Go.Proofs.Ytfcnodiepdnegaa
