/- The walk of BitsetCounts. -/
import Derived.Test.YtfcnodiepdnegaaBitLaw3
import Derived.Deep.RegionHeld3
namespace Go.Proofs.Ytfcnodiepdnegaa
open Go.RowKit
set_option linter.unusedVariables false
set_option maxRecDepth 100000

theorem cnt_same (p q : Nat → Bool) (n : Nat) (h : ∀ i, i < n → p i = q i) : BM.cnt p n = BM.cnt q n :=
  Nat.le_antisymm (BM.cnt_le p q n fun i hi hp => by rw [← h i hi]; exact hp) (BM.cnt_le q p n fun i hi hp => by rw [h i hi]; exact hp)
theorem comb_ok {L : Int} {a b : List UInt64} (ha : BM.okB L a = true) (hb : BM.okB L b = true) (f : UInt64 → UInt64 → UInt64) : BM.combM f L a L b = (0, L, List.zipWith f a b) ∧ BM.okB L (List.zipWith f a b) = true := by
  refine ⟨?_, ?_⟩
  · unfold BM.combM
    rw [ha, hb, decide_eq_true rfl]
    rfl
  · rw [BM.okB_iff] at ha hb ⊢
    rw [List.length_zipWith]
    omega
theorem comb_cnt {L : Int} {a b : List UInt64} (ha : BM.okB L a = true) (hb : BM.okB L b = true) (f : UInt64 → UInt64 → UInt64) (g : Bool → Bool → Bool) (hf : ∀ x y j, BM.bitW (f x y) j = g (BM.bitW x j) (BM.bitW y j)) :
    BM.cnt (BM.bitL (List.zipWith f a b)) L.toNat = BM.cnt (fun i => g (BM.bitL a i) (BM.bitL b i)) L.toNat := by
  rw [BM.okB_iff] at ha hb
  exact cnt_same _ _ _ fun i hi => BM.bitL_zip f g hf a b (by omega) i (by omega)
theorem bits_next {w w' : World} {v : Value} {L : Int} {l : List UInt64} (h : IsBits w.heap.size w v L l) (b : Below w.heap.size w w') (u : Obj) : IsBits (w'.alloc u).heap.size (w'.alloc u) v L l :=
  (h.keep (b.alloc b.size u)).more (Nat.le_trans b.size (by simp))
theorem row_next {w w' : World} {X : Nat} {y : Obj} (h : w.heap[X]? = some y) (b : Below w.heap.size w w') (u : Obj) : (w'.alloc u).heap[X]? = some y := by
  have hX : X < w.heap.size := (Array.getElem?_eq_some_iff.1 h).1
  have hX' : X < w'.heap.size := Nat.lt_of_lt_of_le hX b.size
  exact (Below.heap_alloc w' u X hX').trans ((b.block X hX).trans h)
theorem made_next {base : Nat} {w : World} {A : Option Addr} {n c : Nat} {L : Int} {l : List UInt64} (h : OwnsW base w (.slice A n c) l) (hr : InRange L) (u : Obj) : IsBits (w.alloc u).heap.size (w.alloc u) (.agg #[.int .i64 L, .slice A n c]) L l :=
  ((h.bits hr).keep ((Below.refl _ w).alloc (Nat.le_refl _) u)).more (by simp)
set_option maxHeartbeats 4000000 in
theorem BitsetCounts_walk (A : Option Addr) (n c : Nat) (w : World) (hE : PEnv w) (hI : IntsArg w A n c) :
    Calls Try.prog 4 #[.slice A n c] w fun e w' => e = .returned (.bool true) ∧ Below w.heap.size w w' := by
  have HE := Lib.hid (fun W (h : Below w.heap.size w W) => hE.below h (Nat.le_refl _))
  have HE0 := Lib.hid hE
  have HI := Lib.hid hI
  clear hE hI
  go_enter Try.func4, Try.ntmps4
  go_wp2_with fail
  refine (awake9_any w HE0.out).mono ?_
  rintro e w1 ⟨rfl, b1⟩
  go_wp2_with fail
  refine (Few_any A n c w1 (Nat.le_trans HI.out.1 HI.out.2.1)).mono ?_
  rintro e w1' ⟨rfl, rfl⟩
  by_cases hn : n ≤ 400
  · have hd : decide (n ≤ 400) = true := by simp [hn]
    rw [hd]
    clear hd
    go_wp2_with fail
    refine (New_any A n c w1 (HI.out.below b1)).mono ?_
    rintro e w3 ⟨rfl, hd3, b3⟩
    generalize hg : w1.heap.size = g at *
    have HG := Lib.hid hg
    clear hg
    have hgw : w.heap.size ≤ g := by rw [← HG.out]; exact b1.size
    have bw3 : Below w.heap.size w w3 := b1.trans (b3.mono hgw)
    clear b3 b1
    go_wp2_with fail
    refine (Next_any g w3 hd3 8 (by omega) (by omega)).mono ?_
    rintro e w4 ⟨x, rfl, ⟨hx0, hx1⟩, hd4, g4⟩
    obtain ⟨m, rfl⟩ := Int.eq_ofNat_of_zero_le hx0
    have hm : m < 8 := by omega
    clear hx0 hx1
    have bw4 : Below w.heap.size w w4 := bw3.trans (below_of_grown g4 hgw bw3.size)
    clear bw3 hd3 g4
    obtain ⟨q, hq⟩ : ∃ q : Int, 64 * (1 + (m : Int)) = q := ⟨_, rfl⟩
    obtain ⟨N, hN⟩ : ∃ N : Nat, N = 1 + m := ⟨_, rfl⟩
    have hqN : 64 * (N : Int) = q := by omega
    have HQN := Lib.hid hqN
    have hNr : 1 ≤ N ∧ N ≤ 8 := by omega
    have hq0 : 64 ≤ q ∧ q ≤ 512 := by omega
    have HB := fun W h => Bits_any g W h N (by omega)
    rw [hqN] at HB
    have HB4 := Lib.hid HB
    have hgl := hd4.lt
    clear hqN hN HB
    have HD4 := Lib.hid hd4
    clear hd4
    go_wp2_with fail
    refine (HB4.out _ HD4.out).mono ?_
    rintro e w5 ⟨u5, la, rfl, hla, ho5, hd5, g5⟩
    obtain ⟨A5, c5, rfl⟩ := ho5.slice_
    have bw5 : Below w.heap.size w w5 := bw4.trans (below_of_grown g5 hgw bw4.size)
    have hoka := ok_of hla hNr.1 hNr.2
    rw [HQN.out] at hoka
    have hrg : InRange q := by unfold InRange; omega
    have HOKa := Lib.hid hoka
    have HO5 := Lib.hid ho5
    have HD5 := Lib.hid hd5
    clear ho5 g5 bw4 hla hoka hd5 HD4
    go_wp2_with fail
    refine (HB4.out _ HD5.out).mono ?_
    rintro e w6 ⟨u6, lb, rfl, hlb, ho6, hd6, g6⟩
    obtain ⟨A6, c6, rfl⟩ := ho6.slice_
    have bw6 : Below w.heap.size w w6 := bw5.trans (below_of_grown g6 hgw bw5.size)
    have hokb := ok_of hlb hNr.1 hNr.2
    rw [HQN.out] at hokb
    have HOKb := Lib.hid hokb
    have hoa6 : OwnsW w4.heap.size w6 (.slice A5 la.length c5) la := owns_grown HO5.out g6 (fun q hq e => by injection hq with hq; subst hq; have := (owns_at HO5.out e).1; omega)
    have hIa6 : IsBits w6.heap.size w6 (.agg #[.int .i64 q, .slice A5 la.length c5]) q la := hoa6.bits hrg
    have hIb6 : IsBits w6.heap.size w6 (.agg #[.int .i64 q, .slice A6 lb.length c6]) q lb := ho6.bits hrg
    clear ho6 g6 bw5 hlb hokb hd6 HD5 HB4 HO5 hoa6
    obtain ⟨W6, hW6⟩ : ∃ W, W = (w6.alloc (.cells #[.int .i64 q, .slice A5 la.length c5] 25)).alloc (.cells #[.int .i64 q, .slice A6 lb.length c6] 25) := ⟨_, rfl⟩
    have hxX : W6.heap[w6.heap.size]? = some (.cells #[.int .i64 q, .slice A5 la.length c5] 25 (0, 0)) := by rw [hW6]; exact (Below.heap_alloc _ _ _ (by simp)).trans (heap_alloc_new w6 _)
    have hxY : W6.heap[w6.heap.size + 1]? = some (.cells #[.int .i64 q, .slice A6 lb.length c6] 25 (0, 0)) := by
      have := heap_alloc_new (w6.alloc (.cells #[.int .i64 q, .slice A5 la.length c5] 25)) (.cells #[.int .i64 q, .slice A6 lb.length c6] 25)
      rw [World.size_alloc] at this
      rw [hW6]
      exact this
    have bW6 : Below w.heap.size w W6 := by rw [hW6]; exact same_al (same_al bw6)
    have hbb6 : Below w6.heap.size w6 (w6.alloc (.cells #[.int .i64 q, .slice A5 la.length c5] 25)) := (Below.refl _ w6).alloc (Nat.le_refl _) _
    have hIa : IsBits W6.heap.size W6 (.agg #[.int .i64 q, .slice A5 la.length c5]) q la := by rw [hW6]; exact bits_next hIa6 hbb6 _
    have hIb : IsBits W6.heap.size W6 (.agg #[.int .i64 q, .slice A6 lb.length c6]) q lb := by rw [hW6]; exact bits_next hIb6 hbb6 _
    have HWE := Lib.hid hW6
    clear hW6 hIa6 hIb6 bw6 hbb6
    go_wp2_with fail
    rw [← HWE.out]
    clear HWE
    generalize w6.heap.size = X at *
    obtain ⟨lx, hlx⟩ : ∃ l, l = List.zipWith (fun x y => x &&& y) la lb := ⟨_, rfl⟩
    have hokx : BM.okB q lx = true := by rw [hlx]; exact (comb_ok HOKa.out HOKb.out _).2
    have C7 := pAnd_any W6.heap.size (.agg #[.int .i64 q, .slice A5 la.length c5]) (.agg #[.int .i64 q, .slice A6 lb.length c6]) q la q lb W6 (HE.out _ bW6) hIa hIb (Nat.le_refl _)
    rw [(comb_ok HOKa.out HOKb.out _).1, ← hlx] at C7
    have HOKx := Lib.hid hokx
    have HLx := Lib.hid hlx
    clear hlx hokx
    refine C7.mono ?_
    rintro e w7 ⟨u7, rfl, ho7, -, b7⟩
    obtain ⟨A7, c7, rfl⟩ : ∃ A c, u7 = .slice A lx.length c := ho7.slice_
    obtain ⟨W7, hW7⟩ : ∃ W, W = w7.alloc (.cells #[.int .i64 q, .slice A7 lx.length c7] 25) := ⟨_, rfl⟩
    have hxX_7 : W7.heap[X]? = some (.cells #[.int .i64 q, .slice A5 la.length c5] 25 (0, 0)) := by rw [hW7]; exact row_next hxX b7 _
    have hwxX_7 := (b7.block (X) (Array.getElem?_eq_some_iff.1 hxX).1).trans hxX
    obtain ⟨⟨y0, z0⟩, -⟩ := row2 hwxX_7
    have hsxX_7 := Nat.lt_of_lt_of_le (Array.getElem?_eq_some_iff.1 hxX).1 b7.size
    have hxY_7 : W7.heap[X + 1]? = some (.cells #[.int .i64 q, .slice A6 lb.length c6] 25 (0, 0)) := by rw [hW7]; exact row_next hxY b7 _
    have hwxY_7 := (b7.block (X + 1) (Array.getElem?_eq_some_iff.1 hxY).1).trans hxY
    obtain ⟨⟨y1, z1⟩, -⟩ := row2 hwxY_7
    have hsxY_7 := Nat.lt_of_lt_of_le (Array.getElem?_eq_some_iff.1 hxY).1 b7.size
    have hP_7 : W7.heap[w7.heap.size]? = some (.cells #[.int .i64 q, .slice A7 lx.length c7] 25 (0, 0)) := by rw [hW7]; exact heap_alloc_new w7 _
    have bW7 : Below w.heap.size w W7 := by rw [hW7]; exact same_al (same_of bW6 b7)
    have hIa_7 : IsBits W7.heap.size W7 (.agg #[.int .i64 q, .slice A5 la.length c5]) q la := by rw [hW7]; exact bits_next hIa b7 _
    have hIb_7 : IsBits W7.heap.size W7 (.agg #[.int .i64 q, .slice A6 lb.length c6]) q lb := by rw [hW7]; exact bits_next hIb b7 _
    have hIx_7 : IsBits W7.heap.size W7 (.agg #[.int .i64 q, .slice A7 lx.length c7]) q lx := by rw [hW7]; exact made_next ho7 hrg _
    have HWE := Lib.hid hW7
    clear hW7 C7 ho7 b7 bW6 hwxX_7 hwxY_7
    replace hxX := hxX_7
    clear hxX_7
    replace hxY := hxY_7
    clear hxY_7
    have hP := hP_7
    clear hP_7
    replace hIa := hIa_7
    clear hIa_7
    replace hIb := hIb_7
    clear hIb_7
    have hIx := hIx_7
    clear hIx_7
    go_wp2_with fail
    rw [← HWE.out]
    clear HWE
    clear y0 z0 y1 z1
    clear hsxX_7 hsxY_7
    generalize w7.heap.size = P at *
    obtain ⟨ly, hly⟩ : ∃ l, l = List.zipWith (fun x y => x ||| y) la lb := ⟨_, rfl⟩
    have hoky : BM.okB q ly = true := by rw [hly]; exact (comb_ok HOKa.out HOKb.out _).2
    have C8 := pOr_any W7.heap.size (.agg #[.int .i64 q, .slice A5 la.length c5]) (.agg #[.int .i64 q, .slice A6 lb.length c6]) q la q lb W7 (HE.out _ bW7) hIa hIb (Nat.le_refl _)
    rw [(comb_ok HOKa.out HOKb.out _).1, ← hly] at C8
    have HOKy := Lib.hid hoky
    have HLy := Lib.hid hly
    clear hly hoky
    refine C8.mono ?_
    rintro e w8 ⟨u8, rfl, ho8, -, b8⟩
    obtain ⟨A8, c8, rfl⟩ : ∃ A c, u8 = .slice A ly.length c := ho8.slice_
    obtain ⟨W8, hW8⟩ : ∃ W, W = w8.alloc (.cells #[.int .i64 q, .slice A8 ly.length c8] 25) := ⟨_, rfl⟩
    have hxX_8 : W8.heap[X]? = some (.cells #[.int .i64 q, .slice A5 la.length c5] 25 (0, 0)) := by rw [hW8]; exact row_next hxX b8 _
    have hwxX_8 := (b8.block (X) (Array.getElem?_eq_some_iff.1 hxX).1).trans hxX
    obtain ⟨⟨y0, z0⟩, -⟩ := row2 hwxX_8
    have hsxX_8 := Nat.lt_of_lt_of_le (Array.getElem?_eq_some_iff.1 hxX).1 b8.size
    have hxY_8 : W8.heap[X + 1]? = some (.cells #[.int .i64 q, .slice A6 lb.length c6] 25 (0, 0)) := by rw [hW8]; exact row_next hxY b8 _
    have hwxY_8 := (b8.block (X + 1) (Array.getElem?_eq_some_iff.1 hxY).1).trans hxY
    obtain ⟨⟨y1, z1⟩, -⟩ := row2 hwxY_8
    have hsxY_8 := Nat.lt_of_lt_of_le (Array.getElem?_eq_some_iff.1 hxY).1 b8.size
    have hP_8 : W8.heap[P]? = some (.cells #[.int .i64 q, .slice A7 lx.length c7] 25 (0, 0)) := by rw [hW8]; exact row_next hP b8 _
    have hwP_8 := (b8.block (P) (Array.getElem?_eq_some_iff.1 hP).1).trans hP
    obtain ⟨⟨y2, z2⟩, -⟩ := row2 hwP_8
    have hsP_8 := Nat.lt_of_lt_of_le (Array.getElem?_eq_some_iff.1 hP).1 b8.size
    have hQ_8 : W8.heap[w8.heap.size]? = some (.cells #[.int .i64 q, .slice A8 ly.length c8] 25 (0, 0)) := by rw [hW8]; exact heap_alloc_new w8 _
    have bW8 : Below w.heap.size w W8 := by rw [hW8]; exact same_al (same_of bW7 b8)
    have hIa_8 : IsBits W8.heap.size W8 (.agg #[.int .i64 q, .slice A5 la.length c5]) q la := by rw [hW8]; exact bits_next hIa b8 _
    have hIb_8 : IsBits W8.heap.size W8 (.agg #[.int .i64 q, .slice A6 lb.length c6]) q lb := by rw [hW8]; exact bits_next hIb b8 _
    have hIx_8 : IsBits W8.heap.size W8 (.agg #[.int .i64 q, .slice A7 lx.length c7]) q lx := by rw [hW8]; exact bits_next hIx b8 _
    have hIy_8 : IsBits W8.heap.size W8 (.agg #[.int .i64 q, .slice A8 ly.length c8]) q ly := by rw [hW8]; exact made_next ho8 hrg _
    have HWE := Lib.hid hW8
    clear hW8 C8 ho8 b8 bW7 hwxX_8 hwxY_8 hwP_8
    replace hxX := hxX_8
    clear hxX_8
    replace hxY := hxY_8
    clear hxY_8
    replace hP := hP_8
    clear hP_8
    have hQ := hQ_8
    clear hQ_8
    replace hIa := hIa_8
    clear hIa_8
    replace hIb := hIb_8
    clear hIb_8
    replace hIx := hIx_8
    clear hIx_8
    have hIy := hIy_8
    clear hIy_8
    go_wp2_with fail
    rw [← HWE.out]
    clear HWE
    clear y0 z0 y1 z1 y2 z2
    clear hsxX_8 hsxY_8 hsP_8
    generalize w8.heap.size = Q at *
    obtain ⟨lz, hlz⟩ : ∃ l, l = List.zipWith (fun x y => x ^^^ y) la lb := ⟨_, rfl⟩
    have hokz : BM.okB q lz = true := by rw [hlz]; exact (comb_ok HOKa.out HOKb.out _).2
    have C9 := pXor_any W8.heap.size (.agg #[.int .i64 q, .slice A5 la.length c5]) (.agg #[.int .i64 q, .slice A6 lb.length c6]) q la q lb W8 (HE.out _ bW8) hIa hIb (Nat.le_refl _)
    rw [(comb_ok HOKa.out HOKb.out _).1, ← hlz] at C9
    have HOKz := Lib.hid hokz
    have HLz := Lib.hid hlz
    clear hlz hokz
    refine C9.mono ?_
    rintro e w9 ⟨u9, rfl, ho9, -, b9⟩
    obtain ⟨A9, c9, rfl⟩ : ∃ A c, u9 = .slice A lz.length c := ho9.slice_
    obtain ⟨W9, hW9⟩ : ∃ W, W = w9.alloc (.cells #[.int .i64 q, .slice A9 lz.length c9] 25) := ⟨_, rfl⟩
    have hxX_9 : W9.heap[X]? = some (.cells #[.int .i64 q, .slice A5 la.length c5] 25 (0, 0)) := by rw [hW9]; exact row_next hxX b9 _
    have hwxX_9 := (b9.block (X) (Array.getElem?_eq_some_iff.1 hxX).1).trans hxX
    obtain ⟨⟨y0, z0⟩, -⟩ := row2 hwxX_9
    have hsxX_9 := Nat.lt_of_lt_of_le (Array.getElem?_eq_some_iff.1 hxX).1 b9.size
    have hxY_9 : W9.heap[X + 1]? = some (.cells #[.int .i64 q, .slice A6 lb.length c6] 25 (0, 0)) := by rw [hW9]; exact row_next hxY b9 _
    have hwxY_9 := (b9.block (X + 1) (Array.getElem?_eq_some_iff.1 hxY).1).trans hxY
    obtain ⟨⟨y1, z1⟩, -⟩ := row2 hwxY_9
    have hsxY_9 := Nat.lt_of_lt_of_le (Array.getElem?_eq_some_iff.1 hxY).1 b9.size
    have hP_9 : W9.heap[P]? = some (.cells #[.int .i64 q, .slice A7 lx.length c7] 25 (0, 0)) := by rw [hW9]; exact row_next hP b9 _
    have hwP_9 := (b9.block (P) (Array.getElem?_eq_some_iff.1 hP).1).trans hP
    obtain ⟨⟨y2, z2⟩, -⟩ := row2 hwP_9
    have hsP_9 := Nat.lt_of_lt_of_le (Array.getElem?_eq_some_iff.1 hP).1 b9.size
    have hQ_9 : W9.heap[Q]? = some (.cells #[.int .i64 q, .slice A8 ly.length c8] 25 (0, 0)) := by rw [hW9]; exact row_next hQ b9 _
    have hwQ_9 := (b9.block (Q) (Array.getElem?_eq_some_iff.1 hQ).1).trans hQ
    obtain ⟨⟨y3, z3⟩, -⟩ := row2 hwQ_9
    have hsQ_9 := Nat.lt_of_lt_of_le (Array.getElem?_eq_some_iff.1 hQ).1 b9.size
    have hR_9 : W9.heap[w9.heap.size]? = some (.cells #[.int .i64 q, .slice A9 lz.length c9] 25 (0, 0)) := by rw [hW9]; exact heap_alloc_new w9 _
    have bW9 : Below w.heap.size w W9 := by rw [hW9]; exact same_al (same_of bW8 b9)
    have hIa_9 : IsBits W9.heap.size W9 (.agg #[.int .i64 q, .slice A5 la.length c5]) q la := by rw [hW9]; exact bits_next hIa b9 _
    have hIb_9 : IsBits W9.heap.size W9 (.agg #[.int .i64 q, .slice A6 lb.length c6]) q lb := by rw [hW9]; exact bits_next hIb b9 _
    have hIx_9 : IsBits W9.heap.size W9 (.agg #[.int .i64 q, .slice A7 lx.length c7]) q lx := by rw [hW9]; exact bits_next hIx b9 _
    have hIy_9 : IsBits W9.heap.size W9 (.agg #[.int .i64 q, .slice A8 ly.length c8]) q ly := by rw [hW9]; exact bits_next hIy b9 _
    have hIz_9 : IsBits W9.heap.size W9 (.agg #[.int .i64 q, .slice A9 lz.length c9]) q lz := by rw [hW9]; exact made_next ho9 hrg _
    have HWE := Lib.hid hW9
    clear hW9 C9 ho9 b9 bW8 hwxX_9 hwxY_9 hwP_9 hwQ_9
    replace hxX := hxX_9
    clear hxX_9
    replace hxY := hxY_9
    clear hxY_9
    replace hP := hP_9
    clear hP_9
    replace hQ := hQ_9
    clear hQ_9
    have hR := hR_9
    clear hR_9
    replace hIa := hIa_9
    clear hIa_9
    replace hIb := hIb_9
    clear hIb_9
    replace hIx := hIx_9
    clear hIx_9
    replace hIy := hIy_9
    clear hIy_9
    have hIz := hIz_9
    clear hIz_9
    go_wp2_with fail
    rw [← HWE.out]
    clear HWE
    clear y0 z0 y1 z1 y2 z2 y3 z3
    clear hsxX_9 hsxY_9 hsP_9 hsQ_9
    generalize w9.heap.size = R at *
    have hxb : List.zipWith (fun x y => x ^^^ y) lz lb = la := by
      have h1 := HOKa.out
      have h2 := HOKb.out
      rw [BM.okB_iff] at h1 h2
      rw [HLz.out]
      exact BM.xor_back la lb (by omega)
    have HXB := Lib.hid hxb
    clear hxb
    have C10 := pXor_any W9.heap.size (.agg #[.int .i64 q, .slice A9 lz.length c9]) (.agg #[.int .i64 q, .slice A6 lb.length c6]) q lz q lb W9 (HE.out _ bW9) hIz hIb (Nat.le_refl _)
    rw [(comb_ok HOKz.out HOKb.out _).1, HXB.out] at C10
    refine C10.mono ?_
    rintro e w10 ⟨u10, rfl, ho10, -, b10⟩
    obtain ⟨A10, c10, rfl⟩ : ∃ A c, u10 = .slice A la.length c := ho10.slice_
    obtain ⟨W10, hW10⟩ : ∃ W, W = w10.alloc (.cells #[.int .i64 q, .slice A10 la.length c10] 25) := ⟨_, rfl⟩
    have hxX_10 : W10.heap[X]? = some (.cells #[.int .i64 q, .slice A5 la.length c5] 25 (0, 0)) := by rw [hW10]; exact row_next hxX b10 _
    have hwxX_10 := (b10.block (X) (Array.getElem?_eq_some_iff.1 hxX).1).trans hxX
    obtain ⟨⟨y0, z0⟩, -⟩ := row2 hwxX_10
    have hsxX_10 := Nat.lt_of_lt_of_le (Array.getElem?_eq_some_iff.1 hxX).1 b10.size
    have hxY_10 : W10.heap[X + 1]? = some (.cells #[.int .i64 q, .slice A6 lb.length c6] 25 (0, 0)) := by rw [hW10]; exact row_next hxY b10 _
    have hwxY_10 := (b10.block (X + 1) (Array.getElem?_eq_some_iff.1 hxY).1).trans hxY
    obtain ⟨⟨y1, z1⟩, -⟩ := row2 hwxY_10
    have hsxY_10 := Nat.lt_of_lt_of_le (Array.getElem?_eq_some_iff.1 hxY).1 b10.size
    have hP_10 : W10.heap[P]? = some (.cells #[.int .i64 q, .slice A7 lx.length c7] 25 (0, 0)) := by rw [hW10]; exact row_next hP b10 _
    have hwP_10 := (b10.block (P) (Array.getElem?_eq_some_iff.1 hP).1).trans hP
    obtain ⟨⟨y2, z2⟩, -⟩ := row2 hwP_10
    have hsP_10 := Nat.lt_of_lt_of_le (Array.getElem?_eq_some_iff.1 hP).1 b10.size
    have hQ_10 : W10.heap[Q]? = some (.cells #[.int .i64 q, .slice A8 ly.length c8] 25 (0, 0)) := by rw [hW10]; exact row_next hQ b10 _
    have hwQ_10 := (b10.block (Q) (Array.getElem?_eq_some_iff.1 hQ).1).trans hQ
    obtain ⟨⟨y3, z3⟩, -⟩ := row2 hwQ_10
    have hsQ_10 := Nat.lt_of_lt_of_le (Array.getElem?_eq_some_iff.1 hQ).1 b10.size
    have hR_10 : W10.heap[R]? = some (.cells #[.int .i64 q, .slice A9 lz.length c9] 25 (0, 0)) := by rw [hW10]; exact row_next hR b10 _
    have hwR_10 := (b10.block (R) (Array.getElem?_eq_some_iff.1 hR).1).trans hR
    obtain ⟨⟨y4, z4⟩, -⟩ := row2 hwR_10
    have hsR_10 := Nat.lt_of_lt_of_le (Array.getElem?_eq_some_iff.1 hR).1 b10.size
    have hU_10 : W10.heap[w10.heap.size]? = some (.cells #[.int .i64 q, .slice A10 la.length c10] 25 (0, 0)) := by rw [hW10]; exact heap_alloc_new w10 _
    have bW10 : Below w.heap.size w W10 := by rw [hW10]; exact same_al (same_of bW9 b10)
    have hIa_10 : IsBits W10.heap.size W10 (.agg #[.int .i64 q, .slice A5 la.length c5]) q la := by rw [hW10]; exact bits_next hIa b10 _
    have hIb_10 : IsBits W10.heap.size W10 (.agg #[.int .i64 q, .slice A6 lb.length c6]) q lb := by rw [hW10]; exact bits_next hIb b10 _
    have hIx_10 : IsBits W10.heap.size W10 (.agg #[.int .i64 q, .slice A7 lx.length c7]) q lx := by rw [hW10]; exact bits_next hIx b10 _
    have hIy_10 : IsBits W10.heap.size W10 (.agg #[.int .i64 q, .slice A8 ly.length c8]) q ly := by rw [hW10]; exact bits_next hIy b10 _
    have hIz_10 : IsBits W10.heap.size W10 (.agg #[.int .i64 q, .slice A9 lz.length c9]) q lz := by rw [hW10]; exact bits_next hIz b10 _
    have hIr_10 : IsBits W10.heap.size W10 (.agg #[.int .i64 q, .slice A10 la.length c10]) q la := by rw [hW10]; exact made_next ho10 hrg _
    have HWE := Lib.hid hW10
    clear hW10 C10 ho10 b10 bW9 hwxX_10 hwxY_10 hwP_10 hwQ_10 hwR_10
    replace hxX := hxX_10
    clear hxX_10
    replace hxY := hxY_10
    clear hxY_10
    replace hP := hP_10
    clear hP_10
    replace hQ := hQ_10
    clear hQ_10
    replace hR := hR_10
    clear hR_10
    have hU := hU_10
    clear hU_10
    replace hIa := hIa_10
    clear hIa_10
    replace hIb := hIb_10
    clear hIb_10
    replace hIx := hIx_10
    clear hIx_10
    replace hIy := hIy_10
    clear hIy_10
    replace hIz := hIz_10
    clear hIz_10
    have hIr := hIr_10
    clear hIr_10
    go_wp2_with fail
    rw [← HWE.out]
    clear HWE
    clear y0 z0 y1 z1 y2 z2 y3 z3 y4 z4
    clear hsxX_10 hsxY_10 hsP_10 hsQ_10 hsR_10
    generalize w10.heap.size = U at *
    have HCR := Lib.hid (fun W (h : Below W10.heap.size W10 W) => show ((W.cell? ⟨X, 0, none⟩ = some (.int .i64 q) ∧ W.cell? ⟨X, 1, none⟩ = some (.slice A5 la.length c5)) ∧ (W.cell? ⟨X + 1, 0, none⟩ = some (.int .i64 q) ∧ W.cell? ⟨X + 1, 1, none⟩ = some (.slice A6 lb.length c6)) ∧ (W.cell? ⟨P, 0, none⟩ = some (.int .i64 q) ∧ W.cell? ⟨P, 1, none⟩ = some (.slice A7 lx.length c7)) ∧ (W.cell? ⟨Q, 0, none⟩ = some (.int .i64 q) ∧ W.cell? ⟨Q, 1, none⟩ = some (.slice A8 ly.length c8)) ∧ (W.cell? ⟨R, 0, none⟩ = some (.int .i64 q) ∧ W.cell? ⟨R, 1, none⟩ = some (.slice A9 lz.length c9)) ∧ (W.cell? ⟨U, 0, none⟩ = some (.int .i64 q) ∧ W.cell? ⟨U, 1, none⟩ = some (.slice A10 la.length c10))) from ⟨(row2 ((h.block (X) (Array.getElem?_eq_some_iff.1 hxX).1).trans hxX)).1, (row2 ((h.block (X + 1) (Array.getElem?_eq_some_iff.1 hxY).1).trans hxY)).1, (row2 ((h.block (P) (Array.getElem?_eq_some_iff.1 hP).1).trans hP)).1, (row2 ((h.block (Q) (Array.getElem?_eq_some_iff.1 hQ).1).trans hQ)).1, (row2 ((h.block (R) (Array.getElem?_eq_some_iff.1 hR).1).trans hR)).1, (row2 ((h.block (U) (Array.getElem?_eq_some_iff.1 hU).1).trans hU)).1⟩)
    have HBR := Lib.hid (Below.refl W10.heap.size W10)
    have HBW := Lib.hid bW10
    have HKS := Lib.hid (fun W (h : Below W10.heap.size W10 W) => same_self W10.heap.size (.agg #[.int .i64 q, .slice A10 la.length c10]) (.agg #[.int .i64 q, .slice A5 la.length c5]) q la W (hIr.keep h) (hIa.keep h) h.size)
    have Ka := fun W (h : Below W10.heap.size W10 W) => pCount_any W10.heap.size (.agg #[.int .i64 q, .slice A5 la.length c5]) q la W (HE.out _ (same_of HBW.out h)) (hIa.keep h) h.size
    rw [count_in HOKa.out] at Ka
    have HBDa := BM.cnt_bound (BM.bitL la) q.toNat
    have Kb := fun W (h : Below W10.heap.size W10 W) => pCount_any W10.heap.size (.agg #[.int .i64 q, .slice A6 lb.length c6]) q lb W (HE.out _ (same_of HBW.out h)) (hIb.keep h) h.size
    rw [count_in HOKb.out] at Kb
    have HBDb := BM.cnt_bound (BM.bitL lb) q.toNat
    have Kx := fun W (h : Below W10.heap.size W10 W) => pCount_any W10.heap.size (.agg #[.int .i64 q, .slice A7 lx.length c7]) q lx W (HE.out _ (same_of HBW.out h)) (hIx.keep h) h.size
    rw [count_in HOKx.out] at Kx
    have HBDx := BM.cnt_bound (BM.bitL lx) q.toNat
    have Ky := fun W (h : Below W10.heap.size W10 W) => pCount_any W10.heap.size (.agg #[.int .i64 q, .slice A8 ly.length c8]) q ly W (HE.out _ (same_of HBW.out h)) (hIy.keep h) h.size
    rw [count_in HOKy.out] at Ky
    have HBDy := BM.cnt_bound (BM.bitL ly) q.toNat
    have Kz := fun W (h : Below W10.heap.size W10 W) => pCount_any W10.heap.size (.agg #[.int .i64 q, .slice A9 lz.length c9]) q lz W (HE.out _ (same_of HBW.out h)) (hIz.keep h) h.size
    rw [count_in HOKz.out] at Kz
    have HBDz := BM.cnt_bound (BM.bitL lz) q.toNat
    have hcx : BM.cnt (BM.bitL lx) q.toNat = BM.cnt (fun i => BM.bitL la i && BM.bitL lb i) q.toNat := by rw [HLx.out]; exact comb_cnt HOKa.out HOKb.out _ (fun p q => p && q) BM.bitW_and
    have hcy : BM.cnt (BM.bitL ly) q.toNat = BM.cnt (fun i => BM.bitL la i || BM.bitL lb i) q.toNat := by rw [HLy.out]; exact comb_cnt HOKa.out HOKb.out _ (fun p q => p || q) BM.bitW_or
    have hcz : BM.cnt (BM.bitL lz) q.toNat = BM.cnt (fun i => BM.bitL la i ^^ BM.bitL lb i) q.toNat := by rw [HLz.out]; exact comb_cnt HOKa.out HOKb.out _ (fun p q => p ^^ q) BM.bitW_xor
    have hs1 := BM.cnt_and_or (BM.bitL la) (BM.bitL lb) q.toNat
    have hs2 := BM.cnt_xor (BM.bitL la) (BM.bitL lb) q.toNat
    rw [← hcx, ← hcy] at hs1
    rw [← hcx, ← hcy, ← hcz] at hs2
    have hqt : q.toNat ≤ 512 := by omega
    clear hcx hcy hcz
    generalize q.toNat = qn at *
    generalize BM.cnt (BM.bitL la) qn = ca at *
    generalize BM.cnt (BM.bitL lb) qn = cb at *
    generalize BM.cnt (BM.bitL lx) qn = cx at *
    generalize BM.cnt (BM.bitL ly) qn = cy at *
    generalize BM.cnt (BM.bitL lz) qn = cz at *
    obtain ⟨S, hS⟩ : ∃ S : Nat, S = cx + cy := ⟨_, rfl⟩
    have hw1 : IntKind.i64.wrap ((cx : Int) + (cy : Int)) = (S : Int) := by
      rw [hS]
      simp [IntKind.wrap, IntKind.bits, IntKind.signed]
      omega
    have hw2 : IntKind.i64.wrap ((ca : Int) + (cb : Int)) = (S : Int) := by
      rw [hS, ← hs1.symm]
      simp [IntKind.wrap, IntKind.bits, IntKind.signed]
      omega
    have hw3 : IntKind.i64.wrap ((cy : Int) - (cx : Int)) = (cz : Int) := by
      rw [← hs2]
      simp [IntKind.wrap, IntKind.bits, IntKind.signed]
      omega
    have HKa := Lib.hid Ka
    have HKb := Lib.hid Kb
    have HKx := Lib.hid Kx
    have HKy := Lib.hid Ky
    have HKz := Lib.hid Kz
    clear Ka Kb Kx Ky Kz hIa hIb hIx hIy hIz hIr hxX hxY hP hQ hR hU hs1 hs2 hS HBDa HBDb HBDx HBDy HBDz hqt hq hq0 hm HQN hNr
    have hcur : Below W10.heap.size W10 W10 := Below.refl _ _
    have hst := HCR.out W10 hcur
    go_region_held3 (fun w' => ((w'.cell? ⟨X, 0, none⟩ = some (.int .i64 q) ∧ w'.cell? ⟨X, 1, none⟩ = some (.slice A5 la.length c5)) ∧ (w'.cell? ⟨X + 1, 0, none⟩ = some (.int .i64 q) ∧ w'.cell? ⟨X + 1, 1, none⟩ = some (.slice A6 lb.length c6)) ∧ (w'.cell? ⟨P, 0, none⟩ = some (.int .i64 q) ∧ w'.cell? ⟨P, 1, none⟩ = some (.slice A7 lx.length c7)) ∧ (w'.cell? ⟨Q, 0, none⟩ = some (.int .i64 q) ∧ w'.cell? ⟨Q, 1, none⟩ = some (.slice A8 ly.length c8)) ∧ (w'.cell? ⟨R, 0, none⟩ = some (.int .i64 q) ∧ w'.cell? ⟨R, 1, none⟩ = some (.slice A9 lz.length c9)) ∧ (w'.cell? ⟨U, 0, none⟩ = some (.int .i64 q) ∧ w'.cell? ⟨U, 1, none⟩ = some (.slice A10 la.length c10))))
      (first | go_keep | exact hst)
      (first
        | (have hstage := st7
           go_at_call 15
           refine (HKS.out _ ?gb).mono ?_
           case gb => exact same_of HBR.out (by first | exact hcur | exact hcur.drew)
           rintro e u ⟨rfl, bu⟩
           have hcur : Below W10.heap.size W10 u := same_of (by first | exact hcur | exact hcur.drew) bu
           have hst := HCR.out u hcur
           have hrl := hcur)
        | (have hstage := st6
           go_at_call 34
           refine (HKx.out _ ?gb).mono ?_
           case gb => exact same_of HBR.out (by first | exact hcur | exact hcur.drew)
           rintro e u ⟨rfl, bu⟩
           have hcur : Below W10.heap.size W10 u := same_of (by first | exact hcur | exact hcur.drew) bu
           have hst := HCR.out u hcur
           have st7 := trivial)
        | (have hstage := st5
           go_at_call 34
           refine (HKy.out _ ?gb).mono ?_
           case gb => exact same_of HBR.out (by first | exact hcur | exact hcur.drew)
           rintro e u ⟨rfl, bu⟩
           have hcur : Below W10.heap.size W10 u := same_of (by first | exact hcur | exact hcur.drew) bu
           have hst := HCR.out u hcur
           have st6 := trivial)
        | (have hstage := st4
           go_at_call 34
           refine (HKz.out _ ?gb).mono ?_
           case gb => exact same_of HBR.out (by first | exact hcur | exact hcur.drew)
           rintro e u ⟨rfl, bu⟩
           have hcur : Below W10.heap.size W10 u := same_of (by first | exact hcur | exact hcur.drew) bu
           have hst := HCR.out u hcur
           have st5 := trivial)
        | (have hstage := st3
           go_at_call 34
           refine (HKb.out _ ?gb).mono ?_
           case gb => exact same_of HBR.out (by first | exact hcur | exact hcur.drew)
           rintro e u ⟨rfl, bu⟩
           have hcur : Below W10.heap.size W10 u := same_of (by first | exact hcur | exact hcur.drew) bu
           have hst := HCR.out u hcur
           have st4 := trivial)
        | (have hstage := st2
           go_at_call 34
           refine (HKa.out _ ?gb).mono ?_
           case gb => exact same_of HBR.out (by first | exact hcur | exact hcur.drew)
           rintro e u ⟨rfl, bu⟩
           have hcur : Below W10.heap.size W10 u := same_of (by first | exact hcur | exact hcur.drew) bu
           have hst := HCR.out u hcur
           have st3 := trivial)
        | (have hstage := st1
           go_at_call 34
           refine (HKy.out _ ?gb).mono ?_
           case gb => exact same_of HBR.out (by first | exact hcur | exact hcur.drew)
           rintro e u ⟨rfl, bu⟩
           have hcur : Below W10.heap.size W10 u := same_of (by first | exact hcur | exact hcur.drew) bu
           have hst := HCR.out u hcur
           have st2 := trivial)
        | (go_at_call 34
           refine (HKx.out _ ?gb).mono ?_
           case gb => exact same_of HBR.out (by first | exact hcur | exact hcur.drew)
           rintro e u ⟨rfl, bu⟩
           have hcur : Below W10.heap.size W10 u := same_of (by first | exact hcur | exact hcur.drew) bu
           have hst := HCR.out u hcur
           have st1 := trivial))
    rename_i hHeld
    clear hHeld hst
    go_wp2
    go_ret
    exact ⟨rfl, same_of HBW.out hrl⟩
  · have hd : decide (n ≤ 400) = false := by simp [hn]
    rw [hd]
    clear hd
    go_wp2_with fail
    refine (awake9_any w1 (HE.out _ b1)).mono ?_
    rintro e w2 ⟨rfl, b2⟩
    go_wp2
    go_ret
    exact ⟨rfl, same_of b1 b2⟩
end Go.Proofs.Ytfcnodiepdnegaa
