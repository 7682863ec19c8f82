/- The walk of BitsetFolds. -/
import Derived.Test.YtfcnodiepdnegaaBitLaw1
import Derived.Deep.RegionHeld3
namespace Go.Proofs.Ytfcnodiepdnegaa
open Go.RowKit
set_option linter.unusedVariables false
set_option maxRecDepth 100000

theorem below_deck {w w' : World} {g : Nat} {B : Nat} (h : w.grownBy w' (some g)) (hB : B ≤ g) (hg : g < w.heap.size) : Below B w w' := below_of_grown h hB (by omega)
theorem ok_of {N : Nat} {l : List UInt64} (h : l.length = N) (h1 : 1 ≤ N) (h2 : N ≤ 8) : BM.okB (64 * (N : Int)) l = true := by
  rw [BM.okB_iff]
  omega
theorem has_in {L : Int} {l : List UInt64} (h : BM.okB L l = true) (i : Nat) (hi : (i : Int) < L) : BM.hasM L l (i : Int) = BM.bitL l i := by
  unfold BM.hasM
  rw [h, decide_eq_true (by omega : (0 : Int) ≤ i), decide_eq_true hi]
  simp
set_option maxHeartbeats 4000000 in
theorem BitsetFolds_walk (A : Option Addr) (n c : Nat) (w : World) (hE : PEnv w) (hI : IntsArg w A n c) :
    Calls Try.prog 7 #[.slice A n c] w fun e w' => e = .returned (.bool true) ∧ Below w.heap.size w w' := by
  have HE := Lib.hid (fun W (h : Below w.heap.size w W) => hE.below h (Nat.le_refl _))
  have HE0 := Lib.hid hE
  have HI := Lib.hid hI
  clear hE hI
  go_enter Try.func7, Try.ntmps7
  go_wp2_with fail
  refine (awake9_any w HE0.out).mono ?_
  rintro e w1 ⟨rfl, b1⟩
  go_wp2_with fail
  refine (Few_any A n c w1 (Nat.le_trans HI.out.1 HI.out.2.1)).mono ?_
  rintro e w1' ⟨rfl, rfl⟩
  by_cases hn : n ≤ 400
  · have hd : decide (n ≤ 400) = true := by simp [hn]
    rw [hd]
    clear hd
    go_wp2_with fail
    refine (New_any A n c w1 (HI.out.below b1)).mono ?_
    rintro e w3 ⟨rfl, hd3, b3⟩
    generalize hg : w1.heap.size = g at *
    have HG := Lib.hid hg
    clear hg
    have hgw : w.heap.size ≤ g := by rw [← HG.out]; exact b1.size
    have bw3 : Below w.heap.size w w3 := b1.trans (b3.mono hgw)
    clear b3 b1
    go_wp2_with fail
    refine (Next_any g w3 hd3 4 (by omega) (by omega)).mono ?_
    rintro e w4 ⟨x, rfl, ⟨hx0, hx1⟩, hd4, g4⟩
    obtain ⟨m, rfl⟩ := Int.eq_ofNat_of_zero_le hx0
    have hm : m < 4 := by omega
    clear hx0 hx1
    have bw4 : Below w.heap.size w w4 := bw3.trans (below_of_grown g4 hgw bw3.size)
    clear bw3 hd3 g4
    obtain ⟨q, hq⟩ : ∃ q : Int, 128 * (1 + (m : Int)) = q := ⟨_, rfl⟩
    obtain ⟨N, hN⟩ : ∃ N : Nat, N = 2 * (1 + m) := ⟨_, rfl⟩
    have hqN : 64 * (N : Int) = q := by omega
    have HQN := Lib.hid hqN
    obtain ⟨H, hH⟩ : ∃ H : Nat, H = 64 * (1 + m) := ⟨_, rfl⟩
    have hq2 : q / 2 = (H : Int) := by omega
    have HQH := Lib.hid (show q = 2 * (H : Int) by omega)
    have hH5 : H ≤ 256 := by omega
    have hNr : 1 ≤ N ∧ N ≤ 8 ∧ N % 2 = 0 := by omega
    have hq0 : 0 ≤ q := by omega
    have hNH := Lib.hid (show 64 * (N / 2) = H by omega)
    have HB := Bits_any g w4 hd4 N (by omega)
    rw [hqN] at HB
    have HB4 := Lib.hid HB
    have hgl := hd4.lt
    clear hqN hN hH HB hd4
    go_wp2_with fail
    refine HB4.out.mono ?_
    rintro e w5 ⟨u5, l, rfl, hl, ho5, hd5, g5⟩
    obtain ⟨A5, c5, rfl⟩ := ho5.slice_
    have bw5 : Below w.heap.size w w5 := bw4.trans (below_of_grown g5 hgw bw4.size)
    have hok := ok_of hl hNr.1 hNr.2.1
    rw [HQN.out] at hok
    have hrg : InRange q := by unfold InRange; omega
    have hI5 : IsBits w5.heap.size w5 (.agg #[.int .i64 q, .slice A5 l.length c5]) q l := ho5.bits hrg
    have HLN := Lib.hid hl
    have HFM := Lib.hid (show BM.foldM q l = (0, (H : Int), BM.foldW l) by
      unfold BM.foldM
      rw [hok, if_pos rfl, if_pos (by have := HQN.out; omega), hq2])
    have hg5 := g5.size
    clear ho5 g5 bw4 HB4 hl
    obtain ⟨W5, hW5⟩ : ∃ W, W = w5.alloc (.cells #[.int .i64 q, .slice A5 l.length c5] 25) := ⟨_, rfl⟩
    have hx5 : W5.heap[w5.heap.size]? = some (.cells #[.int .i64 q, .slice A5 l.length c5] 25 (0, 0)) := by rw [hW5]; exact heap_alloc_new w5 _
    have hsW5 : W5.heap.size = w5.heap.size + 1 := by rw [hW5]; simp
    have bW5 : Below w.heap.size w W5 := by rw [hW5]; exact same_al bw5
    have hIW : IsBits w5.heap.size W5 (.agg #[.int .i64 q, .slice A5 l.length c5]) q l := by rw [hW5]; exact hI5.keep ((Below.refl _ w5).alloc (Nat.le_refl _) _)
    have hdW : Deck g W5 := by rw [hW5]; exact hd5.alloc _
    have HWE := Lib.hid hW5
    clear hW5 hI5 hd5 bw5
    go_wp2_with fail
    rw [← HWE.out]
    clear HWE
    generalize w5.heap.size = X at *
    have C6 := pFold_any X _ q l W5 (HE.out _ bW5) hIW (by omega)
    rw [HFM.out] at C6
    refine C6.mono ?_
    rintro e w6 ⟨u6, rfl, ho6, -, b6⟩
    obtain ⟨A6, c6, rfl⟩ : ∃ A c, u6 = .slice A (BM.foldW l).length c := ho6.slice_
    have hrH : InRange (H : Int) := by unfold InRange; omega
    have hI6 : IsBits w6.heap.size w6 (.agg #[.int .i64 (H : Int), .slice A6 (BM.foldW l).length c6]) (H : Int) (BM.foldW l) := ho6.bits hrH
    have hx6 := (b6.block X (by omega)).trans hx5
    have hs6 := b6.size
    have bw6 := same_of bW5 b6
    have hd6 := hdW.below b6 (by omega)
    have hIX6 := hIW.keep (b6.mono (by omega))
    obtain ⟨W6, hW6⟩ : ∃ W, W = w6.alloc (.cells #[.int .i64 (H : Int), .slice A6 (BM.foldW l).length c6] 25) := ⟨_, rfl⟩
    have hxx : W6.heap[X]? = some (.cells #[.int .i64 q, .slice A5 l.length c5] 25 (0, 0)) := by rw [hW6]; exact (Below.heap_alloc w6 _ X (by omega)).trans hx6
    have hxy : W6.heap[w6.heap.size]? = some (.cells #[.int .i64 (H : Int), .slice A6 (BM.foldW l).length c6] 25 (0, 0)) := by rw [hW6]; exact heap_alloc_new w6 _
    have hsW6 : W6.heap.size = w6.heap.size + 1 := by rw [hW6]; simp
    have bW6 : Below w.heap.size w W6 := by rw [hW6]; exact same_al bw6
    have hIa : IsBits W6.heap.size W6 (.agg #[.int .i64 q, .slice A5 l.length c5]) q l := by rw [hW6]; exact (hIX6.keep ((Below.refl _ w6).alloc (by omega) _)).more (by simp; omega)
    have hIb : IsBits W6.heap.size W6 (.agg #[.int .i64 (H : Int), .slice A6 (BM.foldW l).length c6]) (H : Int) (BM.foldW l) := by rw [hW6]; exact (hI6.keep ((Below.refl _ w6).alloc (Nat.le_refl _) _)).more (by simp)
    have hdW6 : Deck g W6 := by rw [hW6]; exact hd6.alloc _
    have HWE := Lib.hid hW6
    have HOKF := Lib.hid (show BM.okB (H : Int) (BM.foldW l) = true by
      have h1 := HLN.out
      have h2 := HQN.out
      have h3 := hNH.out
      rw [BM.okB_iff, BM.foldW_len]
      omega)
    have HFB := Lib.hid (fun (i : Nat) (hi : i < H) => show BM.bitL (BM.foldW l) i = (BM.bitL l i ^^ BM.bitL l (i + H)) by
      have h1 := HLN.out
      have h3 := hNH.out
      have := BM.bitL_fold l (by omega) i (by omega)
      rw [show 64 * (l.length / 2) = H by omega] at this
      exact this)
    have HOK := Lib.hid hok
    generalize BM.foldW l = FW at *
    clear hW6 hI6 hd6 bw6 hx6 hx5 b6 ho6 C6 hIW hdW bW5 hIX6 hok
    go_wp2
    rw [← HWE.out]
    clear HWE
    generalize w6.heap.size = Y at *
    have hYW : Y < W6.heap.size := (Array.getElem?_eq_some_iff.1 hxy).1
    have hXW : X < W6.heap.size := (Array.getElem?_eq_some_iff.1 hxx).1
    have HC := Lib.hid (fun W (h : Below W6.heap.size W6 W) => show ((W.cell? ⟨X, 0, none⟩ = some (.int .i64 q) ∧ W.cell? ⟨X, 1, none⟩ = some (.slice A5 l.length c5)) ∧ (W.cell? ⟨Y, 0, none⟩ = some (.int .i64 (H : Int)) ∧ W.cell? ⟨Y, 1, none⟩ = some (.slice A6 FW.length c6))) from ⟨(row2 ((h.block X hXW).trans hxx)).1, (row2 ((h.block Y hYW).trans hxy)).1⟩)
    have HBa := Lib.hid (fun i W (h : Below W6.heap.size W6 W) => pHas_any W6.heap.size (.agg #[.int .i64 q, .slice A5 l.length c5]) q l i W (HE.out _ (same_of bW6 h)) (hIa.keep h) h.size)
    have HBb := Lib.hid (fun i W (h : Below W6.heap.size W6 W) => pHas_any W6.heap.size (.agg #[.int .i64 (H : Int), .slice A6 FW.length c6]) (H : Int) FW i W (HE.out _ (same_of bW6 h)) (hIb.keep h) h.size)
    have HBW := Lib.hid bW6
    have HDW := Lib.hid hdW6
    have hsz6 := bW6.size
    have hgW : g < W6.heap.size := hdW6.lt
    have HQ2 := Lib.hid hq2
    clear hxx hxy hIa hIb bW6 hdW6 hsW6 hsW5 hs6 hg5 HFM hq2
    go_loopw [8] (fun iv wr => ∃ i : Nat, i ≤ H ∧ iv = .int .i64 i ∧ Below W6.heap.size W6 wr) (fun iv _ => H - (intOf iv).toNat)
    case atStart => exact ⟨0, Nat.zero_le _, rfl, Below.refl _ _⟩
    case round =>
      obtain ⟨i, hi, rfl, hbr⟩ := hrel
      have HBR := Lib.hid hbr
      have hsr := hbr.size
      obtain ⟨⟨x0, x1⟩, y0, y1⟩ := HC.out _ hbr
      by_cases hlt : i < H
      · obtain ⟨r, hr⟩ : ∃ r, r = i + H := ⟨_, rfl⟩
        have hwr : IntKind.i64.wrap ((i : Int) + (H : Int)) = (r : Int) := by
          rw [hr]
          simp [IntKind.wrap, IntKind.bits, IntKind.signed]
          omega
        have htd : IntKind.i64.wrap (q.tdiv 2) = (H : Int) := by
          rw [Int.tdiv_eq_ediv_of_nonneg hq0, HQ2.out]
          simp [IntKind.wrap, IntKind.bits, IntKind.signed]
          omega
        have e1 : BM.hasM q l (i : Int) = BM.bitL l i := has_in HOK.out i (by have := HQH.out; omega)
        have e2 : BM.hasM q l (r : Int) = BM.bitL l r := has_in HOK.out r (by have := HQH.out; omega)
        have e3 : BM.hasM (H : Int) FW (i : Int) = (BM.bitL l i != BM.bitL l r) := by
          rw [has_in HOKF.out i (by omega), HFB.out i hlt, ← hr]
        have h1 := fun W h => HBb.out (i : Int) W h
        have h2 := fun W h => HBa.out (i : Int) W h
        have h3 := fun W h => HBa.out (r : Int) W h
        rw [e1] at h2
        rw [e2] at h3
        rw [e3] at h1
        have K1 := Lib.hid h1
        have K2 := Lib.hid h2
        have K3 := Lib.hid h3
        generalize BM.bitL l i = p1 at *
        generalize BM.bitL l r = p2 at *
        have HRI := Lib.hid hr
        clear h1 h2 h3 e1 e2 e3 hr
        have hcur : Below wr.heap.size wr wr := Below.refl _ _
        have HCR := Lib.hid (fun W (h : Below wr.heap.size wr W) => HC.out W (same_of HBR.out h))
        have i1 : (i : Int) < q / 2 := by rw [HQ2.out]; omega
        clear hbr
        go_wp2_with fail
        go_region_held3 (fun w' => ((w'.cell? ⟨X, 0, none⟩ = some (.int .i64 q) ∧ w'.cell? ⟨X, 1, none⟩ = some (.slice A5 l.length c5)) ∧ (w'.cell? ⟨Y, 0, none⟩ = some (.int .i64 (H : Int)) ∧ w'.cell? ⟨Y, 1, none⟩ = some (.slice A6 FW.length c6))))
          (first | go_keep | exact hst)
          (first
            | (have hstage := st2
               go_at_call 26
               refine (K3.out _ ?gb).mono ?_
               case gb => exact same_of HBR.out (by first | exact hcur | exact hcur.drew)
               rintro e u ⟨rfl, bu⟩
               have hcur : Below wr.heap.size wr u := same_of (by first | exact hcur | exact hcur.drew) bu
               have hst := HCR.out u hcur
               have hr3 := hcur)
            | (have hstage := st1
               go_at_call 26
               refine (K2.out _ ?gb).mono ?_
               case gb => exact same_of HBR.out (by first | exact hcur | exact hcur.drew)
               rintro e u ⟨rfl, bu⟩
               have hcur : Below wr.heap.size wr u := same_of (by first | exact hcur | exact hcur.drew) bu
               have hst := HCR.out u hcur
               have st2 := trivial)
            | (go_at_call 26
               refine (K1.out _ ?gb).mono ?_
               case gb => exact same_of HBR.out (by first | exact hcur | exact hcur.drew)
               rintro e u ⟨rfl, bu⟩
               have hcur : Below wr.heap.size wr u := same_of (by first | exact hcur | exact hcur.drew) bu
               have hst := HCR.out u hcur
               have st1 := trivial))
        rename_i hHeld
        clear hHeld hst K1 K2 K3 HCR
        have hbn := Lib.hid (HBR.out.trans (hr3.mono hsr))
        have hpp : ((p1 != p2) != (p1 != p2)) = false := by cases p1 <;> cases p2 <;> rfl
        cases p1 <;> cases p2
        all_goals
          go_wp2
          exact ⟨⟨i + 1, by omega, by go_num, hbn.out⟩, by simp [intOf]; omega⟩
      · obtain rfl : i = H := by omega
        have i1 : ¬ (i : Int) < q / 2 := by rw [HQ2.out]; omega
        have hd7 := HDW.out.below hbr hgW
        have HB := Bits_any g wr hd7 1 (by omega)
        rw [show 64 * ((1 : Nat) : Int) = 64 from rfl] at HB
        have HB7 := Lib.hid HB
        have bwr := same_of HBW.out hbr
        clear HB x0 x1 y0 y1 hd7
        go_wp2_with fail
        refine HB7.out.mono ?_
        rintro e w8 ⟨u8, l8, rfl, hl8, ho8, hd8, g8⟩
        obtain ⟨A8, c8, rfl⟩ := ho8.slice_
        have bw8 : Below w.heap.size w w8 := bwr.trans (below_of_grown g8 hgw bwr.size)
        have C9 := pFold_any w8.heap.size _ 64 l8 w8 (HE.out _ bw8) (ho8.bits range_64) (Nat.le_refl _)
        have e9 : BM.foldM 64 l8 = (2, 0, []) := by
          have hok8 : BM.okB 64 l8 = true := by rw [BM.okB_iff]; omega
          unfold BM.foldM
          rw [hok8]
          rfl
        rw [e9] at C9
        have HC9 := Lib.hid C9
        clear C9 e9 g8 hd8 ho8 hl8
        go_wp2_with fail
        refine HC9.out.mono ?_
        rintro e w9 ⟨u9, rfl, ho9, -, b9⟩
        obtain ⟨A9, c9, rfl⟩ : ∃ A c, u9 = .slice A 0 c := ho9.slice_
        have hb9 := same_al (u := .cells #[.int .i64 0, .slice A9 0 c9] 25) (same_of bw8 b9)
        go_wp2
        go_ret
        exact ⟨rfl, hb9⟩
  · have hd : decide (n ≤ 400) = false := by simp [hn]
    rw [hd]
    clear hd
    go_wp2_with fail
    refine (awake9_any w1 (HE.out _ b1)).mono ?_
    rintro e w2 ⟨rfl, b2⟩
    go_wp2
    go_ret
    exact ⟨rfl, same_of b1 b2⟩
end Go.Proofs.Ytfcnodiepdnegaa
