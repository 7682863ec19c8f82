/- Arrays that a deck deals. -/
import Derived.Test.YtfcnodiepdnegaaBitComb
namespace Go.Proofs.Ytfcnodiepdnegaa
open Go.RowKit
set_option linter.unusedVariables false
set_option maxRecDepth 100000

theorem as64 {x : Int} (h : 0 ≤ x ∧ x < 18446744073709551616) : ∃ u : UInt64, x = n64 u := ⟨UInt64.ofNat x.toNat, by
  show x = ((UInt64.ofNat x.toNat).toNat : Int)
  rw [UInt64.toNat_ofNat']
  omega⟩
set_option maxHeartbeats 4000000 in
theorem Bits_any (g : Nat) (w : World) (h : Deck g w) (n : Nat) (hn : n ≤ 100) :
    Calls Try.prog 11 #[.pointer (some ⟨g, 0, none⟩), .int .i64 (64 * (n : Int))] w fun e w' => ∃ u l, e = .returned (.agg #[.int .i64 (64 * (n : Int)), u]) ∧ l.length = n ∧ OwnsW w.heap.size w' u l ∧ Deck g w' ∧ w.grownBy w' (some g) := by
  have hglt := h.lt
  obtain ⟨L, hL⟩ : ∃ L : Int, L = 64 * (n : Int) := ⟨_, rfl⟩
  have hLn : L / 64 = (n : Int) := by omega
  have hL0 : 0 ≤ L := by omega
  rw [← hL]
  have HLE := Lib.hid hL
  clear hL
  have hqr := (Below.heap_alloc (w.alloc (.cells #[.int .i64 0, .slice none 0 0] 25)) (.cells #[.int .i64 L, .slice none 0 0] 25) w.heap.size (by simp)).trans (heap_alloc_new w (.cells #[.int .i64 0, .slice none 0 0] 25))
  have hqx := heap_two8 w (.cells #[.int .i64 0, .slice none 0 0] 25) #[.int .i64 L, .slice none 0 0] 25
  have hd0 := (h.alloc (.cells #[.int .i64 0, .slice none 0 0] 25)).alloc (.cells #[.int .i64 L, .slice none 0 0] 25)
  have hg0 := grown_alloc (grown_alloc (grown_refl w (some g)) (.cells #[.int .i64 0, .slice none 0 0] 25)) (.cells #[.int .i64 L, .slice none 0 0] 25)
  have ho0 := World.ownsRow_nil ((w.alloc (.cells #[.int .i64 0, .slice none 0 0] 25)).alloc (.cells #[.int .i64 L, .slice none 0 0] 25)) (w.heap.size + 2) 51 1
  clear h
  go_enter Try.func11, Try.ntmps11
  go_wp2_with fail
  generalize (w.alloc (.cells #[.int .i64 0, .slice none 0 0] 25)).alloc (.cells #[.int .i64 L, .slice none 0 0] 25) = W0 at *
  have H0 := Lib.hid (And.intro hqx (And.intro hqr (And.intro ho0 (And.intro hd0 hg0))))
  clear hqx hqr ho0 hd0 hg0
  go_loopw [6] (fun iv wr => ∃ (k : Nat) (ls : List UInt64) (u : Value), k ≤ n ∧ iv = .int .i64 k ∧ ls.length = k ∧ wr.heap[w.heap.size + 1]? = some (.cells #[.int .i64 L, u] 25 (0, 0)) ∧ wr.heap[w.heap.size]? = some (.cells #[.int .i64 0, .slice none 0 0] 25 (0, 0)) ∧ OwnsW (w.heap.size + 2) wr u ls ∧ Deck g wr ∧ w.grownBy wr (some g)) (fun iv _ => n - (intOf iv).toNat)
  case atStart => exact ⟨0, [], _, Nat.zero_le _, rfl, rfl, H0.out.1, H0.out.2.1, H0.out.2.2.1, H0.out.2.2.2.1, H0.out.2.2.2.2⟩
  case round =>
    obtain ⟨k, ls, u, hk, rfl, hlk, hqx, hqr, hown, hd, hg⟩ := hrel
    obtain ⟨A3, c3, rfl⟩ := hown.slice_
    by_cases hlt : k < n
    · have i1 : (k : Int) < (n : Int) := by omega
      have hls : ls.length ≤ 100 := by omega
      have HLK := Lib.hid hlk
      have HQX0 := Lib.hid hqx
      have HQR0 := Lib.hid hqr
      have HOW0 := Lib.hid hown
      have HD0 := Lib.hid hd
      have HG0 := Lib.hid hg
      clear hlk hqx hqr hown hd hg
      go_wp2_with fail
      refine (Word_any g wr HD0.out).mono ?_
      rintro e w1 ⟨x, rfl, hx, hd1, hg1⟩
      obtain ⟨z, rfl⟩ := as64 hx
      clear hx
      have HG1 := Lib.hid (grown_trans HG0.out hg1)
      have HD1 := Lib.hid hd1
      have HOW1 := Lib.hid (show OwnsW (w.heap.size + 2) w1 _ ls from owns_grown HOW0.out hg1 (fun q hq e => by injection hq with hq; subst hq; have := (owns_at HOW0.out e).1; omega))
      have HQX1 := Lib.hid ((hg1.block (w.heap.size + 1) (Array.getElem?_eq_some_iff.1 HQX0.out).1 (fun e => by injection e; omega)).trans HQX0.out)
      have HQR1 := Lib.hid ((hg1.block w.heap.size (Array.getElem?_eq_some_iff.1 HQR0.out).1 (fun e => by injection e; omega)).trans HQR0.out)
      clear hd1 hg1
      go_wp2_with fail
      refine (Next_any g w1 HD1.out 4 (by omega) (by omega)).mono ?_
      rintro e w2 ⟨x, rfl, ⟨hx0, hx1⟩, hd2, hg2⟩
      have HG2 := Lib.hid (grown_trans HG1.out hg2)
      have HD2 := Lib.hid hd2
      have HOW2 := Lib.hid (show OwnsW (w.heap.size + 2) w2 _ ls from owns_grown HOW1.out hg2 (fun q hq e => by injection hq with hq; subst hq; have := (owns_at HOW1.out e).1; omega))
      have HQX2 := Lib.hid ((hg2.block (w.heap.size + 1) (Array.getElem?_eq_some_iff.1 HQX1.out).1 (fun e => by injection e; omega)).trans HQX1.out)
      have HQR2 := Lib.hid ((hg2.block w.heap.size (Array.getElem?_eq_some_iff.1 HQR1.out).1 (fun e => by injection e; omega)).trans HQR1.out)
      clear hd2 hg2
      clear HD0 HG0 HOW0 HQX0 HQR0 HD1 HG1 HOW1 HQX1 HQR1
      by_cases e0 : x = 0
      · subst e0
        clear hx0 hx1
        go_wp2_with fail
        refine (Word_any g w2 HD2.out).mono ?_
        rintro e w3 ⟨x, rfl, hx, hd3, hg3⟩
        obtain ⟨z2, rfl⟩ := as64 hx
        clear hx
        have HG3 := Lib.hid (grown_trans HG2.out hg3)
        have HD3 := Lib.hid hd3
        have HOW3 := Lib.hid (show OwnsW (w.heap.size + 2) w3 _ ls from owns_grown HOW2.out hg3 (fun q hq e => by injection hq with hq; subst hq; have := (owns_at HOW2.out e).1; omega))
        have HQX3 := Lib.hid ((hg3.block (w.heap.size + 1) (Array.getElem?_eq_some_iff.1 HQX2.out).1 (fun e => by injection e; omega)).trans HQX2.out)
        have HQR3 := Lib.hid ((hg3.block w.heap.size (Array.getElem?_eq_some_iff.1 HQR2.out).1 (fun e => by injection e; omega)).trans HQR2.out)
        clear hd3 hg3
        go_wp2_with fail
        refine (Word_any g w3 HD3.out).mono ?_
        rintro e w4 ⟨x, rfl, hx, hd4, hg4⟩
        obtain ⟨z3, rfl⟩ := as64 hx
        clear hx
        have HG4 := Lib.hid (grown_trans HG3.out hg4)
        have HD4 := Lib.hid hd4
        have HOW4 := Lib.hid (show OwnsW (w.heap.size + 2) w4 _ ls from owns_grown HOW3.out hg4 (fun q hq e => by injection hq with hq; subst hq; have := (owns_at HOW3.out e).1; omega))
        have HQX4 := Lib.hid ((hg4.block (w.heap.size + 1) (Array.getElem?_eq_some_iff.1 HQX3.out).1 (fun e => by injection e; omega)).trans HQX3.out)
        have HQR4 := Lib.hid ((hg4.block w.heap.size (Array.getElem?_eq_some_iff.1 HQR3.out).1 (fun e => by injection e; omega)).trans HQR3.out)
        clear hd4 hg4
        clear HD2 HG2 HOW2 HQX2 HQR2 HD3 HG3 HOW3 HQX3 HQR3
        have a1 := n64_and z2 z3
        have a2 := n64_and z (z2 &&& z3)
        generalize z2 &&& z3 = y1 at *
        generalize z &&& y1 = y2 at *
        have z1 : w4.cell? ⟨w.heap.size + 1, 1, none⟩ = some (.slice A3 ls.length c3) := by rw [cell_of_row _ _ _ _ _ _ HQX4.out]; rfl
        have fz1 := Lib.frozen_of_heap HQX4.out 1
        have HOL := Lib.hid (fun q hq => World.ownsRow.lt HOW4.out q hq)
        have hsW := HG4.out.size
        have hXW := (Array.getElem?_eq_some_iff.1 HQX4.out).1
        go_wp2_with (at_builtin; refine wpList_append_words rfl _ _ rfl (w.heap.size + 2) (by simp; omega) _ ls rfl (World.ownsRow.alloc HOW4.out _) _ _ [y2] rfl (words_one (new_cellW _ _ _ 0 _ rfl)) (proper_some _ _ _) (by simp; omega) ?_)
        intro v9 w9 own9 grow9
        have own9' : OwnsW (w.heap.size + 2) w9 v9 (ls ++ [y2]) := by
          unfold OwnsW
          simpa using own9
        clear own9
        obtain ⟨g9, cap9, rfl, hg9, -⟩ := own9'.form (by simp)
        have F : Below (w.heap.size + 2) w4 w9 := ((Below.refl _ w4).alloc (by omega) _).grown grow9 (by simp; omega) (fun q hq => (HOL.out q hq).1)
        have hx9 := (F.block (w.heap.size + 1) (by omega)).trans HQX4.out
        have hr9 := (F.block w.heap.size (by omega)).trans HQR4.out
        have p1 : w9.cell? ⟨w.heap.size + 1, 1, none⟩ = some (.slice A3 ls.length c3) := by rw [cell_of_row _ _ _ _ _ _ hx9]; rfl
        have fp1 := Lib.frozen_of_heap hx9 1
        have hll : (ls ++ [y2]).length = ls.length + 1 := by simp
        have HX6 := Lib.hid (cells_set hx9 1 (.slice (some ⟨g9, 0, none⟩) (ls.length + 1) cap9))
        have HR6 := Lib.hid ((Below.heap_setCell w9 ⟨w.heap.size + 1, 1, none⟩ (.slice (some ⟨g9, 0, none⟩) (ls.length + 1) cap9) w.heap.size (by show w.heap.size ≠ w.heap.size + 1; omega)).trans hr9)
        have HO7 : Hid (OwnsW (w.heap.size + 2) (w9.setCell ⟨w.heap.size + 1, 1, none⟩ (.slice (some ⟨g9, 0, none⟩) (ls.length + 1) cap9)) (.slice (some ⟨g9, 0, none⟩) (ls.length + 1) cap9) (ls ++ [y2])) := by
          have := own9'.set (p := ⟨w.heap.size + 1, 1, none⟩) (Nat.lt_succ_self _) (.slice (some ⟨g9, 0, none⟩) (ls.length + 1) cap9)
          rw [hll] at this
          exact this
        have F2 : Below (w.heap.size + 1) w4 (w9.setCell ⟨w.heap.size + 1, 1, none⟩ (.slice (some ⟨g9, 0, none⟩) (ls.length + 1) cap9)) := (F.mono (show w.heap.size + 1 ≤ w.heap.size + 2 by omega)).setCell (p := ⟨w.heap.size + 1, 1, none⟩) (Nat.le_refl _) _
        have HD9 := Lib.hid (HD4.out.below F2 (by omega))
        have HG9 := Lib.hid (grown_below HG4.out F2 (by omega))
        clear own9' grow9 F F2 hx9 hr9 z1 fz1 hll HOL
        go_wp2
        exact ⟨⟨k + 1, ls ++ [y2], _, by omega, by go_num, by rw [List.length_append, HLK.out]; rfl, HX6.out, HR6.out, HO7.out, HD9.out, HG9.out⟩, by simp [intOf]; omega⟩
      · by_cases e1 : x = 1
        · subst e1
          clear hx0 hx1 e0
          have z1 : w2.cell? ⟨w.heap.size + 1, 1, none⟩ = some (.slice A3 ls.length c3) := by rw [cell_of_row _ _ _ _ _ _ HQX2.out]; rfl
          have fz1 := Lib.frozen_of_heap HQX2.out 1
          have HOL := Lib.hid (fun q hq => World.ownsRow.lt HOW2.out q hq)
          have hsW := HG2.out.size
          have hXW := (Array.getElem?_eq_some_iff.1 HQX2.out).1
          go_wp2_with (at_builtin; refine wpList_append_words rfl _ _ rfl (w.heap.size + 2) (by simp; omega) _ ls rfl (World.ownsRow.alloc HOW2.out _) _ _ [(0 : UInt64)] rfl (words_one (new_cellW _ _ _ 0 _ rfl)) (proper_some _ _ _) (by simp; omega) ?_)
          intro v9 w9 own9 grow9
          have own9' : OwnsW (w.heap.size + 2) w9 v9 (ls ++ [(0 : UInt64)]) := by
            unfold OwnsW
            simpa using own9
          clear own9
          obtain ⟨g9, cap9, rfl, hg9, -⟩ := own9'.form (by simp)
          have F : Below (w.heap.size + 2) w2 w9 := ((Below.refl _ w2).alloc (by omega) _).grown grow9 (by simp; omega) (fun q hq => (HOL.out q hq).1)
          have hx9 := (F.block (w.heap.size + 1) (by omega)).trans HQX2.out
          have hr9 := (F.block w.heap.size (by omega)).trans HQR2.out
          have p1 : w9.cell? ⟨w.heap.size + 1, 1, none⟩ = some (.slice A3 ls.length c3) := by rw [cell_of_row _ _ _ _ _ _ hx9]; rfl
          have fp1 := Lib.frozen_of_heap hx9 1
          have hll : (ls ++ [(0 : UInt64)]).length = ls.length + 1 := by simp
          have HX6 := Lib.hid (cells_set hx9 1 (.slice (some ⟨g9, 0, none⟩) (ls.length + 1) cap9))
          have HR6 := Lib.hid ((Below.heap_setCell w9 ⟨w.heap.size + 1, 1, none⟩ (.slice (some ⟨g9, 0, none⟩) (ls.length + 1) cap9) w.heap.size (by show w.heap.size ≠ w.heap.size + 1; omega)).trans hr9)
          have HO7 : Hid (OwnsW (w.heap.size + 2) (w9.setCell ⟨w.heap.size + 1, 1, none⟩ (.slice (some ⟨g9, 0, none⟩) (ls.length + 1) cap9)) (.slice (some ⟨g9, 0, none⟩) (ls.length + 1) cap9) (ls ++ [(0 : UInt64)])) := by
            have := own9'.set (p := ⟨w.heap.size + 1, 1, none⟩) (Nat.lt_succ_self _) (.slice (some ⟨g9, 0, none⟩) (ls.length + 1) cap9)
            rw [hll] at this
            exact this
          have F2 : Below (w.heap.size + 1) w2 (w9.setCell ⟨w.heap.size + 1, 1, none⟩ (.slice (some ⟨g9, 0, none⟩) (ls.length + 1) cap9)) := (F.mono (show w.heap.size + 1 ≤ w.heap.size + 2 by omega)).setCell (p := ⟨w.heap.size + 1, 1, none⟩) (Nat.le_refl _) _
          have HD9 := Lib.hid (HD2.out.below F2 (by omega))
          have HG9 := Lib.hid (grown_below HG2.out F2 (by omega))
          clear own9' grow9 F F2 hx9 hr9 z1 fz1 hll HOL
          go_wp2
          exact ⟨⟨k + 1, ls ++ [(0 : UInt64)], _, by omega, by go_num, by rw [List.length_append, HLK.out]; rfl, HX6.out, HR6.out, HO7.out, HD9.out, HG9.out⟩, by simp [intOf]; omega⟩
        · have b0 : (x == 0) = false := by simpa using e0
          have b1 : (x == 1) = false := by simpa using e1
          clear e0 e1
          have z1 : w2.cell? ⟨w.heap.size + 1, 1, none⟩ = some (.slice A3 ls.length c3) := by rw [cell_of_row _ _ _ _ _ _ HQX2.out]; rfl
          have fz1 := Lib.frozen_of_heap HQX2.out 1
          have HOL := Lib.hid (fun q hq => World.ownsRow.lt HOW2.out q hq)
          have hsW := HG2.out.size
          have hXW := (Array.getElem?_eq_some_iff.1 HQX2.out).1
          go_wp2_with (at_builtin; refine wpList_append_words rfl _ _ rfl (w.heap.size + 2) (by simp; omega) _ ls rfl (World.ownsRow.alloc HOW2.out _) _ _ [z] rfl (words_one (new_cellW _ _ _ 0 _ rfl)) (proper_some _ _ _) (by simp; omega) ?_)
          intro v9 w9 own9 grow9
          have own9' : OwnsW (w.heap.size + 2) w9 v9 (ls ++ [z]) := by
            unfold OwnsW
            simpa using own9
          clear own9
          obtain ⟨g9, cap9, rfl, hg9, -⟩ := own9'.form (by simp)
          have F : Below (w.heap.size + 2) w2 w9 := ((Below.refl _ w2).alloc (by omega) _).grown grow9 (by simp; omega) (fun q hq => (HOL.out q hq).1)
          have hx9 := (F.block (w.heap.size + 1) (by omega)).trans HQX2.out
          have hr9 := (F.block w.heap.size (by omega)).trans HQR2.out
          have p1 : w9.cell? ⟨w.heap.size + 1, 1, none⟩ = some (.slice A3 ls.length c3) := by rw [cell_of_row _ _ _ _ _ _ hx9]; rfl
          have fp1 := Lib.frozen_of_heap hx9 1
          have hll : (ls ++ [z]).length = ls.length + 1 := by simp
          have HX6 := Lib.hid (cells_set hx9 1 (.slice (some ⟨g9, 0, none⟩) (ls.length + 1) cap9))
          have HR6 := Lib.hid ((Below.heap_setCell w9 ⟨w.heap.size + 1, 1, none⟩ (.slice (some ⟨g9, 0, none⟩) (ls.length + 1) cap9) w.heap.size (by show w.heap.size ≠ w.heap.size + 1; omega)).trans hr9)
          have HO7 : Hid (OwnsW (w.heap.size + 2) (w9.setCell ⟨w.heap.size + 1, 1, none⟩ (.slice (some ⟨g9, 0, none⟩) (ls.length + 1) cap9)) (.slice (some ⟨g9, 0, none⟩) (ls.length + 1) cap9) (ls ++ [z])) := by
            have := own9'.set (p := ⟨w.heap.size + 1, 1, none⟩) (Nat.lt_succ_self _) (.slice (some ⟨g9, 0, none⟩) (ls.length + 1) cap9)
            rw [hll] at this
            exact this
          have F2 : Below (w.heap.size + 1) w2 (w9.setCell ⟨w.heap.size + 1, 1, none⟩ (.slice (some ⟨g9, 0, none⟩) (ls.length + 1) cap9)) := (F.mono (show w.heap.size + 1 ≤ w.heap.size + 2 by omega)).setCell (p := ⟨w.heap.size + 1, 1, none⟩) (Nat.le_refl _) _
          have HD9 := Lib.hid (HD2.out.below F2 (by omega))
          have HG9 := Lib.hid (grown_below HG2.out F2 (by omega))
          clear own9' grow9 F F2 hx9 hr9 z1 fz1 hll HOL
          go_wp2
          exact ⟨⟨k + 1, ls ++ [z], _, by omega, by go_num, by rw [List.length_append, HLK.out]; rfl, HX6.out, HR6.out, HO7.out, HD9.out, HG9.out⟩, by simp [intOf]; omega⟩
    · obtain rfl : k = n := by omega
      have i1 : ¬ (k : Int) < (k : Int) := by omega
      have p0 : wr.cell? ⟨w.heap.size + 1, 0, none⟩ = some (.int .i64 L) := by rw [cell_of_row _ _ _ _ _ _ hqx]; rfl
      have p1 : wr.cell? ⟨w.heap.size + 1, 1, none⟩ = some (.slice A3 ls.length c3) := by rw [cell_of_row _ _ _ _ _ _ hqx]; rfl
      have y0 : wr.cell? ⟨w.heap.size, 0, none⟩ = some (.int .i64 0) := by rw [cell_of_row _ _ _ _ _ _ hqr]; rfl
      have y1 : wr.cell? ⟨w.heap.size, 1, none⟩ = some (.slice none 0 0) := by rw [cell_of_row _ _ _ _ _ _ hqr]; rfl
      have f0 := Lib.frozen_of_heap hqr 0
      have f1 := Lib.frozen_of_heap hqr 1
      have HF := Lib.hid (cells_set (cells_set hqr 0 (.int .i64 L)) 1 (.slice A3 ls.length c3))
      have F2 : Below w.heap.size wr ((wr.setCell ⟨w.heap.size, 0, none⟩ (.int .i64 L)).setCell ⟨w.heap.size, 1, none⟩ (.slice A3 ls.length c3)) := ((Below.refl _ wr).setCell (p := ⟨w.heap.size, 0, none⟩) (Nat.le_refl _) _).setCell (p := ⟨w.heap.size, 1, none⟩) (Nat.le_refl _) _
      have HD9 := Lib.hid (hd.below F2 hglt)
      have HG9 := Lib.hid (grown_below hg F2 (Nat.le_refl _))
      have HOF := Lib.hid (((hown.set (p := ⟨w.heap.size, 0, none⟩) (by show w.heap.size < w.heap.size + 2; omega) (.int .i64 L)).set (p := ⟨w.heap.size, 1, none⟩) (by show w.heap.size < w.heap.size + 2; omega) (.slice A3 ls.length c3)).less (b' := w.heap.size) (by omega))
      have HLK := Lib.hid hlk
      clear hqx hqr hown hd hg F2 hlk
      go_wp2
      have t0 := cell_of_row _ _ 0 _ _ _ HF.out
      have t1 := cell_of_row _ _ 1 _ _ _ HF.out
      exact bodyPost_ret (v := .agg #[.int .i64 L, .slice A3 ls.length c3]) (by simp [results, Try.results11, go_sem, t0, t1]) rfl ⟨_, rfl, ls, HLK.out, HOF.out, HD9.out, HG9.out⟩
end Go.Proofs.Ytfcnodiepdnegaa
