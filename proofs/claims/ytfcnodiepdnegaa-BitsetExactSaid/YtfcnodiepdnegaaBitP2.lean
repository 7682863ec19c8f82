/- The program's New, and arrays that share no memory. -/
import Derived.Test.YtfcnodiepdnegaaBitP1
import Derived.Laws.CopyOwn
namespace Go.Proofs.Ytfcnodiepdnegaa
open Go.RowKit
set_option linter.unusedVariables false
set_option maxRecDepth 100000

theorem row2B {w : World} {b : Nat} {T : TypeId} {x y : Value} (h : w.heap[b]? = some (.cells #[x, y] T (0, 0))) : (w.cell? ⟨b, 0, none⟩ = some x ∧ w.cell? ⟨b, 1, none⟩ = some y) ∧ w.frozen? ⟨b, 0, none⟩ = false ∧ w.frozen? ⟨b, 1, none⟩ = false :=
  ⟨⟨by rw [cell_of_row _ _ _ _ _ _ h]; rfl, by rw [cell_of_row _ _ _ _ _ _ h]; rfl⟩, Lib.frozen_of_heap h 0, Lib.frozen_of_heap h 1⟩
set_option maxHeartbeats 1000000 in
theorem pempty_any (n : Int) (w : World) (hl : BM.lenB n = true) :
    Calls Try.prog 42 #[.int .i64 n] w fun e w' => ∃ u, e = .returned (.agg #[.int .i64 n, u]) ∧ OwnsW w.heap.size w' u (List.replicate (n / 64).toNat 0) ∧ Below w.heap.size w w' := by
  obtain ⟨g1, g2, -⟩ := len_range hl
  obtain ⟨m, hm⟩ : ∃ m : Nat, n / 64 = (m : Int) := ⟨(n / 64).toNat, by omega⟩
  have hm8 : m ≤ 8 := by omega
  have hm1 : 0 < m := by omega
  have HN := Lib.hid (show (n / 64).toNat = m by omega)
  have hmk := run_make_row' (P := Try.prog) 23 51 (.int .u64 0) 8 Try.underlying23 wordInfo rfl .i64 .i64 m (by omega) (by omega)
  have z0 := cell_oneW (u := .cells (madeCells #[.int .u64 0] m) 51) (new_cellW w #[.int .i64 n, .slice (some ⟨w.heap.size + 1, 0, none⟩) m m] 25 0 _ rfl)
  have z1 := cell_oneW (u := .cells (madeCells #[.int .u64 0] m) 51) (new_cellW w #[.int .i64 n, .slice (some ⟨w.heap.size + 1, 0, none⟩) m m] 25 1 _ rfl)
  clear hl
  go_enter Try.func42, Try.ntmps42
  go_wp2
  refine bodyPost_ret (v := .agg #[.int .i64 n, .slice (some ⟨w.heap.size + 1, 0, none⟩) m m]) (by simp [results, Try.results42, go_sem, z0, z1]) rfl ?_
  have hrow := heap_two8 w (.cells #[.int .i64 n, .slice (some ⟨w.heap.size + 1, 0, none⟩) m m] 25) (madeCells #[.int .u64 0] m) 51
  rw [HN.out]
  exact ⟨_, rfl, owns_made hrow (Nat.le_succ _) (by unfold maxLen; omega), two_new8 w _ _⟩
set_option maxHeartbeats 1000000 in
theorem pNew_any (n : Int) (w : World) (_ : PEnv w) (hn : InRange n) :
    Calls Try.prog 13 #[.int .i64 n] w fun e w' => Made w (BM.newM n) e w' := by
  have HL := Lib.hid (fun W => plen_any n W hn)
  have HC := Lib.hid (fun W h => pempty_any n W h)
  have hbw : Below w.heap.size w (w.alloc (.cells #[.int .i64 0, .slice none 0 0] 25)) := (Below.refl _ w).alloc (Nat.le_refl _) _
  have hqr : (w.alloc (.cells #[.int .i64 0, .slice none 0 0] 25)).heap[w.heap.size]? = some (.cells #[.int .i64 0, .slice none 0 0] 25 (0, 0)) := heap_alloc_new w (.cells #[.int .i64 0, .slice none 0 0] 25)
  have hs1 : w.heap.size + 1 = (w.alloc (.cells #[.int .i64 0, .slice none 0 0] 25)).heap.size := by simp
  go_enter Try.func13, Try.ntmps13
  go_wp2_with fail
  generalize (w.alloc (.cells #[.int .i64 0, .slice none 0 0] 25)) = W1 at *
  refine (HL.out _).mono ?_
  rintro e w2 ⟨rfl, hw⟩
  subst w2
  cases hl : BM.lenB n
  · have HN := Lib.hid (show BM.newM n = (2, 0, []) by unfold BM.newM; rw [hl]; rfl)
    have HZ := Lib.hid (cells_set (cells_set hqr 0 (.int .i64 0)) 1 (.slice none 0 0))
    have HBZ := Lib.hid ((hbw.setCell (p := ⟨w.heap.size, 0, none⟩) (Nat.le_refl _) (.int .i64 0)).setCell (p := ⟨w.heap.size, 1, none⟩) (Nat.le_refl _) (.slice none 0 0))
    obtain ⟨⟨y0, y1⟩, f0, f1⟩ := row2B hqr
    clear hqr hbw
    go_wp2
    have t0 := cell_of_row _ _ 0 _ _ _ HZ.out
    have t1 := cell_of_row _ _ 1 _ _ _ HZ.out
    refine bodyPost_ret (v := .tuple #[zeroV, .int .i64 2]) (by simp [results, Try.results13, zeroV, go_sem, t0, t1]) rfl ?_
    rw [HN.out]
    exact ⟨_, rfl, World.ownsRow_nil _ _ _ _, zero_range, HBZ.out⟩
  · have HN := Lib.hid (show BM.newM n = (0, n, List.replicate (n / 64).toNat 0) by unfold BM.newM; rw [hl]; rfl)
    go_wp2_with fail
    refine (HC.out _ hl).mono ?_
    rintro e w2 ⟨u, rfl, hu, b2⟩
    generalize List.replicate (n / 64).toNat (0 : UInt64) = RW at *
    have hqr2 := (b2.block (w.heap.size) (by omega)).trans hqr
    have hb2 := same_of hbw b2
    have hs2 := b2.size
    obtain ⟨A3, c3, rfl⟩ := hu.slice_
    have HF := Lib.hid (cells_set (cells_set hqr2 0 (.int .i64 n)) 1 (.slice A3 RW.length c3))
    have HBF := Lib.hid ((hb2.setCell (p := ⟨w.heap.size, 0, none⟩) (Nat.le_refl _) (.int .i64 n)).setCell (p := ⟨w.heap.size, 1, none⟩) (Nat.le_refl _) (.slice A3 RW.length c3))
    have HOF := Lib.hid (((hu.set (p := ⟨w.heap.size, 0, none⟩) (by show w.heap.size < W1.heap.size; omega) (.int .i64 n)).set (p := ⟨w.heap.size, 1, none⟩) (by show w.heap.size < W1.heap.size; omega) (.slice A3 RW.length c3)).less (b' := w.heap.size) (by omega))
    obtain ⟨⟨y0, y1⟩, f0, f1⟩ := row2B hqr2
    clear hu b2 hqr hqr2 hbw HC HL hl
    go_wp2
    have t0 := cell_of_row _ _ 0 _ _ _ HF.out
    have t1 := cell_of_row _ _ 1 _ _ _ HF.out
    refine bodyPost_ret (v := .tuple #[.agg #[.int .i64 n, .slice A3 RW.length c3], .int .i64 0]) (by simp [results, Try.results13, go_sem, t0, t1]) rfl ?_
    rw [HN.out]
    exact ⟨_, rfl, HOF.out, hn, HBF.out⟩
theorem OwnsW.cur {base g cap n : Nat} {w : World} {l : List UInt64} (h : OwnsW base w (.slice (some ⟨g, 0, none⟩) n cap) l) : ∃ cur : List Value, w.heap[g]? = some (.cells cur.toArray 51 (0, 0)) ∧ l.length ≤ cap ∧ cap ≤ maxLen ∧ cur.length = cap ∧ base ≤ g ∧ n = l.length := by
  rcases h.2 with ⟨hv, h0⟩ | ⟨g', cap', cur, hv, hbg, hg, hnc, hcm, hcs, htake⟩
  · cases hv
  · obtain ⟨rfl, rfl, rfl⟩ : g = g' ∧ n = l.length ∧ cap = cap' := by simpa using hv
    exact ⟨cur.toList, by simpa using hg, hnc, hcm, by rw [Array.length_toList, hcs, Nat.mul_one], hbg, rfl⟩
theorem owns_copied {base g cap : Nat} {w : World} {l : List UInt64} {cur : List Value} {cs : List Value} (hcs : cs = l.map wordV) (hg : w.heap[g]? = some (.cells (cur.take 0 ++ (cs ++ cur.drop (0 + cs.length))).toArray 51 (0, 0))) (hb : base ≤ g) (hlc : l.length ≤ cap) (hcm : cap ≤ maxLen) (hcur : cur.length = cap) : OwnsW base w (.slice (some ⟨g, 0, none⟩) l.length cap) l := by
  subst hcs
  refine ⟨by rw [List.length_map, Nat.mul_one], .inr ⟨g, cap, _, rfl, hb, hg, hlc, hcm, ?_, ?_⟩⟩
  · simp
    omega
  · rw [Nat.mul_one]
    simp [List.take_left']
/-- copy into a row of this call's own, all of it. -/
theorem wpList_copy_words {ops : Array Oper} {rest : List Oper} {o : Oper} {a : Act} {Q : Exit → Act → World → Prop} {w : World} (hgd : o.guard = none) (d s : Operand)
    (ho : o.op = .call { callee := .builtin .copy, args := #[d, s], argTypes := #[23, 23] }) (base g cap n B b off c : Nat) (l0 l : List UInt64) (hd : a.eval d = .slice (some ⟨g, 0, none⟩) n cap) (hs : a.eval s = .slice (some ⟨b, off, none⟩) n c)
    (hown : OwnsW base w (.slice (some ⟨g, 0, none⟩) n cap) l0) (hX : IsWs B w (.slice (some ⟨b, off, none⟩) n c) l)
    (h : ∀ x w', OwnsW base w' (.slice (some ⟨g, 0, none⟩) n cap) l → w.grownBy w' (some g) → wpList Try.prog ops Q rest (a.put o.dst x) w') : wpList Try.prog ops Q (o :: rest) a w := by
  obtain ⟨cur, hcur, hlc, hcm, hcl, hgb, hn⟩ := hown.cur
  obtain ⟨A', c', he, hlc2, -, hc'⟩ := hX.cells
  obtain ⟨rfl, rfl, rfl⟩ : some (⟨b, off, none⟩ : Addr) = A' ∧ n = l.length ∧ c = c' := by simpa using he
  refine wpList_copy_own hgd d s 23 23 ho 51 Try.underlying23 (by kernel_rfl) g 0 l.length cap ⟨b, off, none⟩ l.length c hd hs cur.toArray 51 hcur (l.map wordV) ?_ ?_ ?_ ?_ ?_
  · rw [List.length_map]
    exact (Nat.min_self _).symm
  · intro j v hj
    rw [addr_add]
    rw [List.getElem?_map] at hj
    obtain ⟨y, hy, rfl⟩ := Option.map_eq_some_iff.1 hj
    obtain ⟨hjl, hjy⟩ := List.getElem?_eq_some_iff.1 hy
    obtain ⟨b', o', hA, -, hcell⟩ := hc' j hjl
    obtain ⟨rfl, rfl⟩ : b = b' ∧ off = o' := by simpa using hA
    rw [hcell, hjy]
  · rw [List.length_map, List.size_toArray]
    omega
  · intro u hu
    obtain ⟨y, _, rfl⟩ := List.mem_map.1 hu
    rfl
  · refine h _ _ (owns_copied rfl (setRow_heap w g cur.toArray _ _ _ hcur) hgb (by omega) hcm hcl) ⟨rfl, rfl, rfl, by simp, fun i hi hne => setRow_other w g i _ (fun e => hne (by rw [e]))⟩
set_option maxHeartbeats 2000000 in
theorem pduplicate_any (B : Nat) (v : Value) (L : Int) (l : List UInt64) (w : World) (h : IsBits B w v L l) (hB : B ≤ w.heap.size) (hok : BM.okB L l = true) :
    Calls Try.prog 54 #[v] w fun e w' => ∃ u, e = .returned (.agg #[.int .i64 L, u]) ∧ OwnsW w.heap.size w' u l ∧ Below w.heap.size w w' := by
  obtain ⟨A, c, rfl, HI, h1, h2, hL, -⟩ := h.open_
  clear h
  obtain ⟨hne, hl9⟩ := okB_ne hok
  have HW := Lib.hid HI.out.words
  obtain ⟨b, o, rfl⟩ := HW.out.some_ hne
  clear HI
  have hk := hok
  rw [BM.okB_iff] at hk
  obtain ⟨k1, k2, k3⟩ := hk
  have HLEN := Lib.hid (show (L / 64).toNat = l.length by omega)
  clear k3
  have HC := Lib.hid (fun W => pempty_any L W (show BM.lenB L = true by
    unfold BM.okB at hok
    simp only [Bool.and_eq_true] at hok
    exact hok.1))
  clear hok
  obtain ⟨W1, hW1⟩ : ∃ W, W = (w.alloc (.cells #[.int .i64 L, .slice (some ⟨b, o, none⟩) l.length c] 25)).alloc (.cells #[.int .i64 0, .slice none 0 0] 25) := ⟨_, rfl⟩
  have hq0 : W1.heap[w.heap.size]? = some (.cells #[.int .i64 L, .slice (some ⟨b, o, none⟩) l.length c] 25 (0, 0)) := by rw [hW1]; exact (Below.heap_alloc _ _ _ (by simp)).trans (heap_alloc_new w _)
  have hq1 : W1.heap[w.heap.size + 1]? = some (.cells #[.int .i64 0, .slice none 0 0] 25 (0, 0)) := by rw [hW1]; exact heap_two8 w _ _ _
  have hb1 : Below w.heap.size w W1 := by rw [hW1]; exact two_new8 w _ _
  have hs1 : W1.heap.size = w.heap.size + 2 := by rw [hW1]; simp
  obtain ⟨⟨x0, x1⟩, -, -⟩ := row2B hq0
  go_enter Try.func54, Try.ntmps54
  go_wp2_with fail
  rw [← hW1]
  clear hW1
  refine (HC.out _).mono ?_
  rintro e w2 ⟨u, rfl, hu, b2⟩
  rw [HLEN.out] at hu
  have hrep : (List.replicate l.length (0 : UInt64)).length = l.length := List.length_replicate
  generalize List.replicate l.length (0 : UInt64) = RP at *
  obtain ⟨g, cap, rfl, hg, hg2, hcap, hcap2⟩ := hu.form (by intro e; rw [e] at hrep; simp at hrep; omega)
  rw [hrep] at hu ⊢
  have hb2 := same_of hb1 b2
  have hs2 := b2.size
  have hq0 := (b2.block (w.heap.size) (by omega)).trans hq0
  have hq1 := (b2.block (w.heap.size + 1) (by omega)).trans hq1
  obtain ⟨W3, hW3⟩ : ∃ W, W = w2.alloc (.cells #[.int .i64 L, .slice (some ⟨g, 0, none⟩) l.length cap] 25) := ⟨_, rfl⟩
  have b3 : Below w2.heap.size w2 W3 := by rw [hW3]; exact (Below.refl _ w2).alloc (Nat.le_refl _) _
  have hq0 := (b3.block (w.heap.size) (by omega)).trans hq0
  have hq1 := (b3.block (w.heap.size + 1) (by omega)).trans hq1
  have own3 : OwnsW W1.heap.size W3 (.slice (some ⟨g, 0, none⟩) l.length cap) RP := by rw [hW3]; exact hu.keep ((Below.refl _ w2).alloc (Nat.le_refl _) _)
  have hqx : W3.heap[w2.heap.size]? = some (.cells #[.int .i64 L, .slice (some ⟨g, 0, none⟩) l.length cap] 25 (0, 0)) := by rw [hW3]; exact heap_alloc_new w2 _
  have hb3 := hb2.trans (b3.mono hb2.size)
  have hs3 : W3.heap.size = w2.heap.size + 1 := by rw [hW3]; simp
  clear x0 x1
  obtain ⟨⟨x0, x1⟩, -, -⟩ := row2B hq0
  obtain ⟨⟨d0, d1⟩, -, -⟩ := row2B hqx
  have HX := Lib.hid (HW.out.keep (hb3.mono hB))
  have HOWN := Lib.hid own3
  have HQ := Lib.hid (And.intro hq1 hqx)
  have HB3 := Lib.hid hb3
  clear own3 hq0 hq1 hqx hb3 hb2 b2 b3 hb1 hu HC HW HLEN hrep
  subst hW3
  go_wp2_with (with_reducible refine wpList_copy_words rfl (.tmp 8) (.tmp 10) rfl W1.heap.size g cap l.length B b o c RP l rfl rfl HOWN.out HX.out ?_)
  intro x W4 own4 grow4
  have hs4 := grow4.size
  have r1 := (grow4.block (w.heap.size + 1) (by omega) (fun e => by have := Option.some.inj e; omega)).trans HQ.out.1
  have rx := (grow4.block w2.heap.size (by omega) (fun e => by have := Option.some.inj e; omega)).trans HQ.out.2
  have hb4 : Below w.heap.size w W4 := HB3.out.grown grow4 (by omega) (fun q hq => by cases hq; omega)
  obtain ⟨⟨y0, y1⟩, f0, f1⟩ := row2B r1
  clear d0 d1
  obtain ⟨⟨d0, d1⟩, -, -⟩ := row2B rx
  have HF := Lib.hid (cells_set (cells_set r1 0 (.int .i64 L)) 1 (.slice (some ⟨g, 0, none⟩) l.length cap))
  have HBF := Lib.hid ((hb4.setCell (p := ⟨w.heap.size + 1, 0, none⟩) (Nat.le_succ _) (.int .i64 L)).setCell (p := ⟨w.heap.size + 1, 1, none⟩) (Nat.le_succ _) (.slice (some ⟨g, 0, none⟩) l.length cap))
  have HOF := Lib.hid (((own4.set (p := ⟨w.heap.size + 1, 0, none⟩) (by show w.heap.size + 1 < _; omega) (.int .i64 L)).set (p := ⟨w.heap.size + 1, 1, none⟩) (by show w.heap.size + 1 < _; omega) (.slice (some ⟨g, 0, none⟩) l.length cap)).less (b' := w.heap.size) (by omega))
  clear own4 grow4 r1 rx hb4 HQ HB3 HX HOWN x0 x1
  go_wp2
  have t0 := cell_of_row _ _ 0 _ _ _ HF.out
  have t1 := cell_of_row _ _ 1 _ _ _ HF.out
  exact bodyPost_ret (v := .agg #[.int .i64 L, .slice (some ⟨g, 0, none⟩) l.length cap]) (by simp [results, Try.results54, go_sem, t0, t1]) rfl ⟨_, rfl, HOF.out, HBF.out⟩
end Go.Proofs.Ytfcnodiepdnegaa
