/- The reference's Copy, Set, combine. -/
import Derived.Test.YtfcnodiepdnegaaBitRow
import Derived.Deep.RegionLaw
namespace Go.Proofs.Ytfcnodiepdnegaa
open Go.RowKit
set_option linter.unusedVariables false
set_option maxRecDepth 100000

theorem IsBits.words {B : Nat} {w : World} {L : Int} {l : List UInt64} {A : Option Addr} {c : Nat} (h : IsBits B w (.agg #[.int .i64 L, .slice A l.length c]) L l) : IsWs B w (.slice A l.length c) l := by
  obtain ⟨sv, hv, hs, -⟩ := h
  simp only [Value.agg.injEq, Array.mk.injEq, List.cons.injEq, and_true, true_and] at hv
  rw [hv]
  exact hs
theorem IsWs.some_ {B : Nat} {w : World} {l : List UInt64} {A : Option Addr} {c : Nat} (h : IsWs B w (.slice A l.length c) l) (hne : l ≠ []) : ∃ b o, A = some ⟨b, o, none⟩ := by
  obtain ⟨A', c', hv, -, -, hc⟩ := h.cells
  injection hv with e1 e2 e3
  obtain ⟨b, o, h, -⟩ := hc 0 (List.length_pos_iff.2 hne)
  exact ⟨b, o, e1.trans h⟩
theorem below_none {B : Nat} {a w w' : World} {v : Value} {x : Option Nat} (h : Below B a w) (k : w.grownBy w' x) (hB : B ≤ w.heap.size) (hx : ∀ q, x = some q → B ≤ q) : Below B a w' := h.grown k hB hx
theorem OwnsW.form {base : Nat} {w : World} {v : Value} {l : List UInt64} (h : OwnsW base w v l) (hne : l ≠ []) : ∃ g cap, v = .slice (some ⟨g, 0, none⟩) l.length cap ∧ base ≤ g ∧ g < w.heap.size ∧ l.length ≤ cap ∧ cap ≤ maxLen := by
  rcases h.2 with ⟨-, h0⟩ | ⟨g, cap, cur, hv, hbg, hg, hnc, hcm, -⟩
  · exact absurd (List.eq_nil_of_length_eq_zero h0) hne
  · exact ⟨g, cap, hv, hbg, (Array.getElem?_eq_some_iff.1 hg).1, hnc, hcm⟩
theorem OwnsW.keep {base : Nat} {w w' : World} {v : Value} {l : List UInt64} (h : OwnsW base w v l) (hb : Below w.heap.size w w') : OwnsW base w' v l := by
  refine ⟨h.1, ?_⟩
  rcases h.2 with h2 | ⟨g, cap, cur, rfl, hbg, hh, hrest⟩
  · exact .inl h2
  · exact .inr ⟨g, cap, cur, rfl, hbg, (hb.block g (Array.getElem?_eq_some_iff.1 hh).1).trans hh, hrest⟩
/-- Stores into blocks below the row's base leave it. -/
theorem OwnsW.set {base : Nat} {w : World} {v : Value} {l : List UInt64} (h : OwnsW base w v l) {p : Addr} (hp : p.block < base) (u : Value) : OwnsW base (w.setCell p u) v l := by
  refine ⟨h.1, ?_⟩
  rcases h.2 with h2 | ⟨g, cap, cur, rfl, hbg, hh, hrest⟩
  · exact .inl h2
  · exact .inr ⟨g, cap, cur, rfl, hbg, (Below.heap_setCell w p u g (by omega)).trans hh, hrest⟩
theorem OwnsW.less {base b' : Nat} {w : World} {v : Value} {l : List UInt64} (h : OwnsW base w v l) (hb : b' ≤ base) : OwnsW b' w v l := by
  refine ⟨h.1, ?_⟩
  rcases h.2 with h2 | ⟨g, cap, cur, rfl, hbg, hrest⟩
  · exact .inl h2
  · exact .inr ⟨g, cap, cur, rfl, by omega, hrest⟩
theorem OwnsW.store {base g cap : Nat} {w : World} {l : List UInt64} (h : OwnsW base w (.slice (some ⟨g, 0, none⟩) l.length cap) l) (k : Nat) (x : UInt64) : OwnsW base (w.setCell ⟨g, k, none⟩ (.int .u64 (n64 x))) (.slice (some ⟨g, 0, none⟩) l.length cap) (l.set k x) := by
  have := (World.ownsRow.stored h k (.int .u64 (n64 x))).1
  unfold OwnsW
  rw [List.length_set, List.map_set]
  exact this
theorem OwnsW.cellAt {base g cap n : Nat} {w : World} {l : List UInt64} (h : OwnsW base w (.slice (some ⟨g, 0, none⟩) n cap) l) (k : Nat) (hk : k < l.length) (hn : n = l.length) : w.cell? ⟨g, k, none⟩ = some (.int .u64 (n64 l[k])) ∧ w.frozen? ⟨g, k, none⟩ = false := by
  subst hn
  exact ⟨(World.ownsRow.cellAt h k (by omega)).trans (by rw [List.getElem?_map, List.getElem?_eq_getElem hk]; rfl), World.ownsRow.frozenAt h k⟩
set_option maxHeartbeats 1000000 in
theorem rCopy_any (B : Nat) (v : Value) (L : Int) (l : List UInt64) (w : World) (h : IsBits B w v L l) (hB : B ≤ w.heap.size) (hl : l.length ≤ 900) (hne : l ≠ []) :
    Calls Try.prog 39 #[v] w fun e w' => ∃ u, e = .returned (.agg #[.int .i64 L, u]) ∧ OwnsW w.heap.size w' u l ∧ Below w.heap.size w w' := by
  obtain ⟨A, c, rfl, HI, h1, h2, hL, -⟩ := h.open_
  clear h
  have HW := Lib.hid HI.out.words
  obtain ⟨b, o, rfl⟩ := HW.out.some_ hne
  clear HI
  obtain ⟨W1, hW1⟩ : ∃ W, W = (w.alloc (.cells #[.int .i64 L, .slice (some ⟨b, o, none⟩) l.length c] 25)).alloc (.cells #[.int .i64 0, .slice none 0 0] 25) := ⟨_, rfl⟩
  have z0 : W1.cell? ⟨w.heap.size, 0, none⟩ = some (.int .i64 L) := by rw [hW1]; exact cell_oneW (new_cellW w _ _ 0 _ rfl)
  have z1 : W1.cell? ⟨w.heap.size, 1, none⟩ = some (.slice (some ⟨b, o, none⟩) l.length c) := by rw [hW1]; exact cell_oneW (new_cellW w _ _ 1 _ rfl)
  have hres : W1.heap[w.heap.size + 1]? = some (.cells #[.int .i64 0, .slice none 0 0] 25 (0, 0)) := by rw [hW1]; exact heap_two8 w _ _ _
  have hb1 : Below w.heap.size w W1 := by rw [hW1]; exact two_new8 w _ _
  have hs1 : W1.heap.size = w.heap.size + 2 := by rw [hW1]; simp
  have HX := Lib.hid (HW.out.keep (hb1.mono hB))
  have HRES := Lib.hid hres
  have HB1 := Lib.hid hb1
  clear hres hb1 HW
  go_enter Try.func39, Try.ntmps39
  go_wp2_with fail
  rw [← hW1]
  clear hW1
  go_region_law
    (first
      | (refine step_append_words ?g1 (.const (.slice none 0 0)) (.tmp 6) ?g2 W1.heap.size ?g3 (.slice none 0 0) [] ?g4 (World.ownsRow_nil _ _ _ _) B _ l ?g5 (HX.out.keep ?g7) (proper_some _ _ _) ?g6 ?_
         case g2 => rfl
         case g1 => rfl
         case g3 => first | exact Nat.le_refl _ | (simp; done) | (simp; omega)
         case g4 => rfl
         case g5 => simp [Act.eval]
         case g6 => first | (simp; done) | (simp; omega)
         case g7 => first | exact Below.refl _ _ | exact (Below.refl _ _).drew
         intro v1 w3 own0 grow1
         have own1 : OwnsW W1.heap.size w3 v1 l := by rw [List.nil_append] at own0; exact own0
         obtain ⟨g, cap, rfl, hg, -⟩ := own1.form hne
         have F1 : Below W1.heap.size W1 w3 := by first | exact (Below.refl _ W1).grown grow1 (Nat.le_refl _) (fun q hq => by cases hq) | exact ((Below.refl _ W1).drew).grown grow1 (Nat.le_refl _) (fun q hq => by cases hq)
         have k0 := (F1.cell (p := ⟨w.heap.size, 0, none⟩) (by show w.heap.size < W1.heap.size; omega)).trans z0
         have k1 := (F1.cell (p := ⟨w.heap.size, 1, none⟩) (by show w.heap.size < W1.heap.size; omega)).trans z1
         have hr3 := (F1.block (w.heap.size + 1) (by omega)).trans HRES.out
         have y0 : w3.cell? ⟨w.heap.size + 1, 0, none⟩ = some (.int .i64 0) := by rw [cell_of_row _ _ _ _ _ _ hr3]; rfl
         have y1 : w3.cell? ⟨w.heap.size + 1, 1, none⟩ = some (.slice none 0 0) := by rw [cell_of_row _ _ _ _ _ _ hr3]; rfl
         have g0 := Lib.frozen_of_heap hr3 0
         have g1 := Lib.frozen_of_heap hr3 1))
  all_goals
    have HOW := Lib.hid (((own1.set (p := ⟨w.heap.size + 1, 0, none⟩) (by show w.heap.size + 1 < W1.heap.size; omega) (.int .i64 L)).set (p := ⟨w.heap.size + 1, 1, none⟩) (by show w.heap.size + 1 < W1.heap.size; omega) (.slice (some ⟨g, 0, none⟩) l.length cap)).less (b' := w.heap.size) (by omega))
    have HB3 := Lib.hid (((HB1.out.trans (F1.mono HB1.out.size)).setCell (p := ⟨w.heap.size + 1, 0, none⟩) (Nat.le_succ _) (.int .i64 L)).setCell (p := ⟨w.heap.size + 1, 1, none⟩) (Nat.le_succ _) (.slice (some ⟨g, 0, none⟩) l.length cap))
    have HR := Lib.hid (cells_set (cells_set hr3 0 (.int .i64 L)) 1 (.slice (some ⟨g, 0, none⟩) l.length cap))
    clear own0 own1 grow1 F1 k0 k1 hr3 y0 y1 g0 g1 HX
    go_wp2
    have x0 := cell_of_row _ _ 0 _ _ _ HR.out
    have x1 := cell_of_row _ _ 1 _ _ _ HR.out
    exact bodyPost_ret (v := .agg #[.int .i64 L, .slice (some ⟨g, 0, none⟩) l.length cap]) (by simp [results, Try.results39, go_sem, x0, x1]) rfl ⟨_, rfl, HOW.out, HB3.out⟩

theorem n64_bit (m : Nat) (h : m < 64) : IntKind.u64.wrap (2 ^ m) = n64 ((1 : UInt64) <<< m.toUInt64) := by
  have e : (2 : Int) ^ m = ((2 ^ m : Nat) : Int) := by rw [Int.natCast_pow]; rfl
  have := n64_shl 1 m h
  rw [show n64 1 = 1 from rfl, Int.one_mul] at this
  rw [e, this]
theorem okB_ne {L : Int} {l : List UInt64} (h : BM.okB L l = true) : l ≠ [] ∧ l.length ≤ 900 := by
  rw [BM.okB_iff] at h
  exact ⟨fun e => by subst e; simp at h, by omega⟩
set_option maxHeartbeats 1000000 in
theorem rSet_any (B : Nat) (v : Value) (L : Int) (l : List UInt64) (i : Int) (w : World) (h : IsBits B w v L l) (hB : B ≤ w.heap.size) :
    Calls Try.prog 25 #[v, .int .i64 i] w fun e w' => Made w (BM.setM L l i) e w' := by
  obtain ⟨A, c, rfl, HI, h1, h2, hL, -⟩ := h.open_
  clear h
  have HV := Lib.hid (fun W h => rValid_any B (.agg #[.int .i64 L, .slice A l.length c]) L l W h)
  have HC := Lib.hid (fun W h hB hl hne => rCopy_any B (.agg #[.int .i64 L, .slice A l.length c]) L l W h hB hl hne)
  have HM := Lib.hid (show BM.setM L l i = if BM.okB L l then (if 0 ≤ i ∧ i < L then (0, L, BM.setW l i.toNat) else (2, 0, [])) else (8, 0, []) from rfl)
  have hb := two_new8 w (.cells #[.int .i64 L, .slice A l.length c] 25) (.cells #[.int .i64 0, .slice none 0 0] 25)
  have hr0 : ((w.alloc (.cells #[.int .i64 L, .slice A l.length c] 25)).alloc (.cells #[.int .i64 0, .slice none 0 0] 25)).heap[w.heap.size]? = _ := (Below.heap_alloc _ _ _ (by simp)).trans (heap_alloc_new w (.cells #[.int .i64 L, .slice A l.length c] 25))
  have hr1 := heap_two8 w (.cells #[.int .i64 L, .slice A l.length c] 25) #[.int .i64 0, .slice none 0 0] 25
  have hs1 : w.heap.size + 2 = ((w.alloc (.cells #[.int .i64 L, .slice A l.length c] 25)).alloc (.cells #[.int .i64 0, .slice none 0 0] 25)).heap.size := by simp
  go_enter Try.func25, Try.ntmps25
  go_wp2_with fail
  generalize (w.alloc (.cells #[.int .i64 L, .slice A l.length c] 25)).alloc (.cells #[.int .i64 0, .slice none 0 0] 25) = W1 at *
  refine (HV.out _ (HI.out.keep (hb.mono hB))).mono ?_
  rintro e w2 ⟨rfl, b2⟩
  have hb2 := same_of hb b2
  have hq0 := (b2.block w.heap.size (by omega)).trans hr0
  have hq1 := (b2.block (w.heap.size + 1) (by omega)).trans hr1
  have hs2 := b2.size
  clear hr0 hr1 hb b2
  have x0 : w2.cell? ⟨w.heap.size, 0, none⟩ = some (.int .i64 L) := by rw [cell_of_row _ _ _ _ _ _ hq0]; rfl
  have x1 : w2.cell? ⟨w.heap.size, 1, none⟩ = some (.slice A l.length c) := by rw [cell_of_row _ _ _ _ _ _ hq0]; rfl
  have y0 : w2.cell? ⟨w.heap.size + 1, 0, none⟩ = some (.int .i64 0) := by rw [cell_of_row _ _ _ _ _ _ hq1]; rfl
  have y1 : w2.cell? ⟨w.heap.size + 1, 1, none⟩ = some (.slice none 0 0) := by rw [cell_of_row _ _ _ _ _ _ hq1]; rfl
  have f0 := Lib.frozen_of_heap hq1 0
  have f1 := Lib.frozen_of_heap hq1 1
  have HZ := Lib.hid (cells_set (cells_set hq1 0 (.int .i64 0)) 1 (.slice none 0 0))
  have HBZ := Lib.hid ((hb2.setCell (p := ⟨w.heap.size + 1, 0, none⟩) (Nat.le_succ _) (.int .i64 0)).setCell (p := ⟨w.heap.size + 1, 1, none⟩) (Nat.le_succ _) (.slice none 0 0))
  cases hok : BM.okB L l
  · go_wp2
    have t0 := cell_of_row _ _ 0 _ _ _ HZ.out
    have t1 := cell_of_row _ _ 1 _ _ _ HZ.out
    refine bodyPost_ret (v := .tuple #[zeroV, .int .i64 8]) (by simp [results, Try.results25, zeroV, go_sem, t0, t1]) rfl ?_
    rw [HM.out, hok]
    exact ⟨_, rfl, World.ownsRow_nil _ _ _ _, zero_range, HBZ.out⟩
  · by_cases hin : 0 ≤ i ∧ i < L
    · have HMR := Lib.hid (show BM.setM L l i = (0, L, BM.setW l i.toNat) by rw [HM.out, hok, if_pos hin]; rfl)
      obtain ⟨hi0, hi1⟩ := hin
      obtain ⟨m, rfl⟩ := Int.eq_ofNat_of_zero_le hi0
      have hml := okB_lt hok hi1
      obtain ⟨hne, hl9⟩ := okB_ne hok
      have hL5 : L ≤ 512 := by rw [BM.okB_iff] at hok; omega
      have HOK := Lib.hid hok
      clear hok HZ HBZ
      go_wp2_with fail
      refine (HC.out _ (HI.out.keep (hb2.mono hB)) (by omega) hl9 hne).mono ?_
      rintro e w3 ⟨u, rfl, own3, b3⟩
      obtain ⟨g, cap, rfl, hg, hg2, hcap, hcap2⟩ := own3.form hne
      unfold maxLen at hcap2
      obtain ⟨W4, hW4⟩ : ∃ W, W = w3.alloc (.cells #[.int .i64 L, .slice (some ⟨g, 0, none⟩) l.length cap] 25) := ⟨_, rfl⟩
      have b4 : Below w2.heap.size w2 W4 := by rw [hW4]; exact b3.alloc b3.size _
      have q0 : W4.cell? ⟨w3.heap.size, 0, none⟩ = some (.int .i64 L) := by rw [hW4]; exact new_cellW w3 _ _ 0 _ rfl
      have q1 : W4.cell? ⟨w3.heap.size, 1, none⟩ = some (.slice (some ⟨g, 0, none⟩) l.length cap) := by rw [hW4]; exact new_cellW w3 _ _ 1 _ rfl
      have own4 : OwnsW w2.heap.size W4 (.slice (some ⟨g, 0, none⟩) l.length cap) l := by rw [hW4]; exact own3.keep ((Below.refl _ w3).alloc (Nat.le_refl _) _)
      have hs4 : W4.heap.size = w3.heap.size + 1 := by rw [hW4]; simp
      have hs3 := b3.size
      have hz1 := (b4.block (w.heap.size + 1) (by omega)).trans hq1
      have hX4 : W4.heap[w3.heap.size]? = some (.cells #[.int .i64 L, .slice (some ⟨g, 0, none⟩) l.length cap] 25 (0, 0)) := by rw [hW4]; exact heap_alloc_new w3 _
      obtain ⟨c0, fr0⟩ := own4.cellAt (m / 64) hml rfl
      have hsh := n64_bit (m % 64) (Nat.mod_lt _ (by decide))
      have hor := n64_or l[m / 64] ((1 : UInt64) <<< (m % 64).toUInt64)
      have HNEW := Lib.hid (show BM.setW l m = l.set (m / 64) (l[m / 64] ||| ((1 : UInt64) <<< (m % 64).toUInt64)) by
        unfold BM.setW
        rw [List.getD_eq_getElem?_getD, List.getElem?_eq_getElem hml]
        rfl)
      generalize l[m / 64] ||| ((1 : UInt64) <<< (m % 64).toUInt64) = nw at *
      generalize ((1 : UInt64) <<< (m % 64).toUInt64) = bt at *
      have HST := Lib.hid (own4.store (m / 64) nw)
      have HB5 := Lib.hid (((hb2.trans (b4.mono hb2.size)).setCell (p := ⟨g, m / 64, none⟩) (by show w.heap.size ≤ g; omega) (.int .u64 (n64 nw))).drew)
      have HX5 := Lib.hid ((Below.heap_setCell W4 ⟨g, m / 64, none⟩ (.int .u64 (n64 nw)) w3.heap.size (by show w3.heap.size ≠ g; omega)).trans hX4)
      have HR5 := Lib.hid ((Below.heap_setCell W4 ⟨g, m / 64, none⟩ (.int .u64 (n64 nw)) (w.heap.size + 1) (by show w.heap.size + 1 ≠ g; omega)).trans hz1)
      go_wp2_with fail
      rw [← hW4]
      clear hW4 own3 own4 b3 b4 hX4 hz1
      go_region
      all_goals
        obtain ⟨W5, hW5⟩ : ∃ W, W = (W4.setCell ⟨g, m / 64, none⟩ (.int .u64 (n64 nw))).drew := ⟨_, rfl⟩
        have hb5 : Below w.heap.size w W5 := by rw [hW5]; exact HB5.out
        have hx5 : W5.heap[w3.heap.size]? = some (.cells #[.int .i64 L, .slice (some ⟨g, 0, none⟩) l.length cap] 25 (0, 0)) := by rw [hW5]; exact HX5.out
        have hr5 : W5.heap[w.heap.size + 1]? = some (.cells #[.int .i64 0, .slice none 0 0] 25 (0, 0)) := by rw [hW5]; exact HR5.out
        have hst5 : OwnsW w2.heap.size W5 (.slice (some ⟨g, 0, none⟩) l.length cap) (l.set (m / 64) nw) := by rw [hW5]; exact HST.out
        rw [← hW5]
        clear hW5 HB5 HX5 HR5 HST x0 x1 y0 y1 f0 f1 q0 q1 c0 fr0 hq0 hq1 hsh hor HI HV HC
        have p0 : W5.cell? ⟨w3.heap.size, 0, none⟩ = some (.int .i64 L) := by rw [cell_of_row _ _ _ _ _ _ hx5]; rfl
        have p1 : W5.cell? ⟨w3.heap.size, 1, none⟩ = some (.slice (some ⟨g, 0, none⟩) l.length cap) := by rw [cell_of_row _ _ _ _ _ _ hx5]; rfl
        have y0 : W5.cell? ⟨w.heap.size + 1, 0, none⟩ = some (.int .i64 0) := by rw [cell_of_row _ _ _ _ _ _ hr5]; rfl
        have y1 : W5.cell? ⟨w.heap.size + 1, 1, none⟩ = some (.slice none 0 0) := by rw [cell_of_row _ _ _ _ _ _ hr5]; rfl
        have f0 := Lib.frozen_of_heap hr5 0
        have f1 := Lib.frozen_of_heap hr5 1
        have HF := Lib.hid (cells_set (cells_set hr5 0 (.int .i64 L)) 1 (.slice (some ⟨g, 0, none⟩) l.length cap))
        have HBF := Lib.hid ((hb5.setCell (p := ⟨w.heap.size + 1, 0, none⟩) (Nat.le_succ _) (.int .i64 L)).setCell (p := ⟨w.heap.size + 1, 1, none⟩) (Nat.le_succ _) (.slice (some ⟨g, 0, none⟩) l.length cap))
        have HOF := Lib.hid (((hst5.set (p := ⟨w.heap.size + 1, 0, none⟩) (by show w.heap.size + 1 < w2.heap.size; omega) (.int .i64 L)).set (p := ⟨w.heap.size + 1, 1, none⟩) (by show w.heap.size + 1 < w2.heap.size; omega) (.slice (some ⟨g, 0, none⟩) l.length cap)).less (b' := w.heap.size) (by omega))
        clear hx5 hr5 hst5 hb5
        go_wp2
        have t0 := cell_of_row _ _ 0 _ _ _ HF.out
        have t1 := cell_of_row _ _ 1 _ _ _ HF.out
        refine bodyPost_ret (v := .tuple #[.agg #[.int .i64 L, .slice (some ⟨g, 0, none⟩) l.length cap], .int .i64 0]) (by simp [results, Try.results25, go_sem, t0, t1]) rfl ?_
        rw [HMR.out, Int.toNat_natCast, HNEW.out]
        exact ⟨_, rfl, HOF.out, hL, HBF.out⟩
    · have hcase : i < 0 ∨ (¬ i < 0 ∧ L ≤ i) := by omega
      have HMR := Lib.hid (show BM.setM L l i = (2, 0, []) by rw [HM.out, hok, if_neg hin]; rfl)
      clear hin
      rcases hcase with hc | ⟨hc, hc2⟩
      all_goals
        go_wp2
        have t0 := cell_of_row _ _ 0 _ _ _ HZ.out
        have t1 := cell_of_row _ _ 1 _ _ _ HZ.out
        refine bodyPost_ret (v := .tuple #[zeroV, .int .i64 2]) (by simp [results, Try.results25, zeroV, go_sem, t0, t1]) rfl ?_
        rw [HMR.out]
        exact ⟨_, rfl, World.ownsRow_nil _ _ _ _, zero_range, HBZ.out⟩
end Go.Proofs.Ytfcnodiepdnegaa
