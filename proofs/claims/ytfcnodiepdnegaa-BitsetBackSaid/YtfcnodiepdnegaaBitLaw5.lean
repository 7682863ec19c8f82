/- The walk of BitsetBack. -/
import Derived.Test.YtfcnodiepdnegaaBitLaw4
import Derived.Sort.Walk0
import Derived.Deep.RegionHeld3
namespace Go.Proofs.Ytfcnodiepdnegaa
open Go.RowKit
set_option linter.unusedVariables false
set_option maxRecDepth 100000

theorem ord_range (a b : Int) : -1 ≤ BM.ordM a b ∧ BM.ordM a b ≤ 1 := by unfold BM.ordM; split <;> (try split) <;> omega
theorem lex_range (l l' : List UInt64) : -1 ≤ BM.lexM l l' ∧ BM.lexM l l' ≤ 1 := by
  induction l generalizing l' with
  | nil => unfold BM.lexM; omega
  | cons x l ih =>
    cases l' with
    | nil => unfold BM.lexM; omega
    | cons y l' =>
      unfold BM.lexM
      have := ih l'
      split <;> (try split) <;> omega
theorem cmp_range (L : Int) (l : List UInt64) (L' : Int) (l' : List UInt64) : -1 ≤ BM.cmpM L l L' l' ∧ BM.cmpM L l L' l' ≤ 1 := by
  unfold BM.cmpM
  have h1 := ord_range L L'
  have h2 := ord_range l.length l'.length
  have h3 := lex_range l l'
  split <;> (try split) <;> omega
theorem less_hex (l l' : List UInt64) : Op.bytesLess (bs (BM.hexL l)).toList (bs (BM.hexL l')).toList = decide (BM.hexL l < BM.hexL l') := by
  rw [Lib.toList_data, Lib.toList_data, Go.Proofs.bytesLess_eq, list_bs, list_bs]
theorem byte_tri : Std.Trichotomous (fun a b : UInt8 => a < b) := ⟨fun a b h1 h2 => UInt8.le_antisymm (UInt8.not_lt.1 h2) (UInt8.not_lt.1 h1)⟩
theorem eq_bytes {x y : ByteArray} {cm : Int} (h1 : Op.bytesLess x.toList y.toList = decide (cm < 0)) (h2 : Op.bytesLess y.toList x.toList = decide (0 < cm)) : (!decide (cm < 0) && !x.toList == y.toList) = decide (0 < cm) := by
  rw [Go.Proofs.bytesLess_eq, decide_eq_decide] at h1 h2
  rw [Bool.eq_iff_iff, Bool.and_eq_true, Bool.not_eq_true', Bool.not_eq_true', decide_eq_false_iff_not, decide_eq_true_eq, beq_eq_false_iff_ne]
  constructor
  · rintro ⟨ha, hb⟩
    apply Classical.byContradiction
    intro hc
    exact hb (@List.le_antisymm _ _ byte_tri _ _ (fun hh => hc (h2.1 hh)) (fun hh => ha (h1.1 hh)))
  · intro hc
    refine ⟨by omega, fun e => ?_⟩
    have h3 := h2.2 hc
    rw [e] at h3 h1
    exact absurd (h1.1 h3) (by omega)
theorem OwnsW.away {base : Nat} {w : World} {v : Value} {l : List UInt64} (h : OwnsW base w v l) {p : Addr} (hp : v.ownBlock ≠ some p.block) (u : Value) : OwnsW base (w.setCell p u) v l := by
  refine ⟨h.1, ?_⟩
  rcases h.2 with h2 | ⟨g, cap, cur, rfl, hbg, hh, hrest⟩
  · exact .inl h2
  · exact .inr ⟨g, cap, cur, rfl, hbg, (Below.heap_setCell w p u g (fun e => hp (by rw [← e]; rfl))).trans hh, hrest⟩
theorem n64_wrap (z : UInt64) : IntKind.u64.wrap (n64 z) = n64 z := by
  have := n64_lt z
  simp [IntKind.wrap, IntKind.bits, IntKind.signed]
  omega
/-- Several ways that come to one end: the end is walked once, whatever the call returned. -/
theorem via_two {F R : World → UInt64 → Prop} {q : Prop} (h : Hid (∀ w z, F w z → R w z) → q) (hp : ∀ w z, F w z → R w z) : q := h (Lib.hid hp)
theorem hexM_ok {L : Int} {l : List UInt64} (h : BM.okB L l = true) : hexM L l = .tuple #[.string (bs (BM.hexL l)), .int .i64 0] := by
  unfold hexM
  rw [if_pos h]
set_option maxHeartbeats 4000000 in
theorem BitsetBack_walk (A : Option Addr) (n c : Nat) (w : World) (hE : PEnv w) (hI : IntsArg w A n c) :
    Calls Try.prog 5 #[.slice A n c] w fun e w' => e = .returned (.bool true) ∧ Below w.heap.size w w' := by
  have HE := Lib.hid (fun W (h : Below w.heap.size w W) => hE.below h (Nat.le_refl _))
  have HE0 := Lib.hid hE
  have HI := Lib.hid hI
  clear hE hI
  go_enter Try.func5, Try.ntmps5
  go_wp2_with fail
  refine (awake9_any w HE0.out).mono ?_
  rintro e w1 ⟨rfl, b1⟩
  go_wp2_with fail
  refine (Few_any A n c w1 (Nat.le_trans HI.out.1 HI.out.2.1)).mono ?_
  rintro e w1' ⟨rfl, rfl⟩
  by_cases hn : n ≤ 400
  · have hd : decide (n ≤ 400) = true := by simp [hn]
    rw [hd]
    clear hd
    go_wp2_with fail
    refine (New_any A n c w1 (HI.out.below b1)).mono ?_
    rintro e w3 ⟨rfl, hd3, b3⟩
    generalize hg : w1.heap.size = g at *
    have HG := Lib.hid hg
    clear hg
    have hgw : w.heap.size ≤ g := by rw [← HG.out]; exact b1.size
    have bw3 : Below w.heap.size w w3 := b1.trans (b3.mono hgw)
    clear b3 b1
    go_wp2_with fail
    refine (Next_any g w3 hd3 8 (by omega) (by omega)).mono ?_
    rintro e w4 ⟨x, rfl, ⟨hx0, hx1⟩, hd4, g4⟩
    obtain ⟨m, rfl⟩ := Int.eq_ofNat_of_zero_le hx0
    have hm : m < 8 := by omega
    clear hx0 hx1
    have bw4 : Below w.heap.size w w4 := bw3.trans (below_of_grown g4 hgw bw3.size)
    clear bw3 hd3 g4
    obtain ⟨q, hq⟩ : ∃ q : Int, 64 * (1 + (m : Int)) = q := ⟨_, rfl⟩
    obtain ⟨N, hN⟩ : ∃ N : Nat, N = 1 + m := ⟨_, rfl⟩
    have hqN : 64 * (N : Int) = q := by omega
    have HQN := Lib.hid hqN
    have hNr : 1 ≤ N ∧ N ≤ 8 := by omega
    have hq0 : 64 ≤ q ∧ q ≤ 512 := by omega
    have HB := fun W h => Bits_any g W h N (by omega)
    rw [hqN] at HB
    have HB4 := Lib.hid HB
    have hgl := hd4.lt
    clear hqN hN HB
    have HD4 := Lib.hid hd4
    clear hd4
    go_wp2_with fail
    refine (HB4.out _ HD4.out).mono ?_
    rintro e w5 ⟨u5, la, rfl, hla, ho5, hd5, g5⟩
    obtain ⟨A5, c5, rfl⟩ := ho5.slice_
    have bw5 : Below w.heap.size w w5 := bw4.trans (below_of_grown g5 hgw bw4.size)
    have hoka := ok_of hla hNr.1 hNr.2
    rw [HQN.out] at hoka
    have hrg : InRange q := by unfold InRange; omega
    have HOKa := Lib.hid hoka
    have hg5 := g5.size
    have HO5 := Lib.hid ho5
    have HD5 := Lib.hid hd5
    clear ho5 g5 bw4 hla hoka hd5 HD4
    go_wp2_with fail
    refine (HB4.out _ HD5.out).mono ?_
    rintro e w6 ⟨u6, lb, rfl, hlb, ho6, hd6, g6⟩
    obtain ⟨A6, c6, rfl⟩ := ho6.slice_
    have bw6 : Below w.heap.size w w6 := bw5.trans (below_of_grown g6 hgw bw5.size)
    have hokb := ok_of hlb hNr.1 hNr.2
    rw [HQN.out] at hokb
    have HOKb := Lib.hid hokb
    have hg6 := g6.size
    have hna : ∀ gq, (Value.slice A5 la.length c5).ownBlock = some gq → gq < w6.heap.size := fun gq e => Nat.lt_of_lt_of_le (owns_at HO5.out e).2 hg6
    have HNA := Lib.hid hna
    clear hna
    have hoa6 : OwnsW w4.heap.size w6 (.slice A5 la.length c5) la := owns_grown HO5.out g6 (fun q hq e => by injection hq with hq; subst hq; have := (owns_at HO5.out e).1; omega)
    have hIa6 : IsBits w6.heap.size w6 (.agg #[.int .i64 q, .slice A5 la.length c5]) q la := hoa6.bits hrg
    have hIb6 : IsBits w6.heap.size w6 (.agg #[.int .i64 q, .slice A6 lb.length c6]) q lb := ho6.bits hrg
    clear g6 bw5 hlb hokb HD5 HB4 HO5
    obtain ⟨W6, hW6⟩ : ∃ W, W = (w6.alloc (.cells #[.int .i64 q, .slice A5 la.length c5] 25)).alloc (.cells #[.int .i64 q, .slice A6 lb.length c6] 25) := ⟨_, rfl⟩
    have hxX : W6.heap[w6.heap.size]? = some (.cells #[.int .i64 q, .slice A5 la.length c5] 25 (0, 0)) := by rw [hW6]; exact (Below.heap_alloc _ _ _ (by simp)).trans (heap_alloc_new w6 _)
    have hxY : W6.heap[w6.heap.size + 1]? = some (.cells #[.int .i64 q, .slice A6 lb.length c6] 25 (0, 0)) := by
      have := heap_alloc_new (w6.alloc (.cells #[.int .i64 q, .slice A5 la.length c5] 25)) (.cells #[.int .i64 q, .slice A6 lb.length c6] 25)
      rw [World.size_alloc] at this
      rw [hW6]
      exact this
    have bW6 : Below w.heap.size w W6 := by rw [hW6]; exact same_al (same_al bw6)
    have hbb6 : Below w6.heap.size w6 (w6.alloc (.cells #[.int .i64 q, .slice A5 la.length c5] 25)) := (Below.refl _ w6).alloc (Nat.le_refl _) _
    have hIa : IsBits W6.heap.size W6 (.agg #[.int .i64 q, .slice A5 la.length c5]) q la := by rw [hW6]; exact bits_next hIa6 hbb6 _
    have hIb : IsBits W6.heap.size W6 (.agg #[.int .i64 q, .slice A6 lb.length c6]) q lb := by rw [hW6]; exact bits_next hIb6 hbb6 _
    have hdW : Deck g W6 := by rw [hW6]; exact (hd6.alloc _).alloc _
    have hoA : OwnsW w4.heap.size W6 (.slice A5 la.length c5) la := by rw [hW6]; exact hoa6.keep (hbb6.alloc hbb6.size _)
    have hoB : OwnsW w5.heap.size W6 (.slice A6 lb.length c6) lb := by rw [hW6]; exact ho6.keep (hbb6.alloc hbb6.size _)
    have hsW6 : W6.heap.size = w6.heap.size + 2 := by rw [hW6]; simp
    have HWE := Lib.hid hW6
    clear hW6 hIa6 hIb6 bw6 hbb6 hd6 hoa6 ho6 hIa hIb
    go_wp2_with fail
    rw [← HWE.out]
    clear HWE
    generalize w6.heap.size = X at *
    refine (One_any g W6 hdW 3 (by omega) (by omega)).mono ?_
    rintro e w7 ⟨bo, rfl, hd7, g7⟩
    have bw7 : Below w.heap.size w w7 := bW6.trans (below_of_grown g7 hgw bW6.size)
    have hx7 := (g7.block X (Array.getElem?_eq_some_iff.1 hxX).1 (fun e => by injection e; omega)).trans hxX
    have hy7 := (g7.block (X + 1) (Array.getElem?_eq_some_iff.1 hxY).1 (fun e => by injection e; omega)).trans hxY
    have hoA7 : OwnsW w4.heap.size w7 (.slice A5 la.length c5) la := owns_grown hoA g7 (fun q hq e => by injection hq with hq; subst hq; have := (owns_at hoA e).1; omega)
    have hoB7 : OwnsW w5.heap.size w7 (.slice A6 lb.length c6) lb := owns_grown hoB g7 (fun q hq e => by injection hq with hq; subst hq; have := (owns_at hoB e).1; omega)
    have hg7 := g7.size
    have HLA := Lib.hid (show la.length = N by have := HOKa.out; rw [BM.okB_iff] at this; have := HQN.out; omega)
    have HLB := Lib.hid (show lb.length = N by have := HOKb.out; rw [BM.okB_iff] at this; have := HQN.out; omega)
    clear hdW g7 hxX hxY hoA hoB bW6
    cases bo
    · -- as dealt
      have hIa : IsBits w7.heap.size w7 (.agg #[.int .i64 q, .slice A5 la.length c5]) q la := hoA7.bits hrg
      have hIb : IsBits w7.heap.size w7 (.agg #[.int .i64 q, .slice A6 lb.length c6]) q lb := hoB7.bits hrg
      clear hoA7 hoB7 hd7
      obtain ⟨⟨x0, x1⟩, -⟩ := row2 hx7
      have HXR := Lib.hid (fun W (h : Below w7.heap.size w7 W) => (row2 ((h.block X (Array.getElem?_eq_some_iff.1 hx7).1).trans hx7)).1)
      have HYR := Lib.hid (fun W (h : Below w7.heap.size w7 W) => (row2 ((h.block (X + 1) (Array.getElem?_eq_some_iff.1 hy7).1).trans hy7)).1)
      have hXV := (Array.getElem?_eq_some_iff.1 hx7).1
      have hYV := (Array.getElem?_eq_some_iff.1 hy7).1
      have KA := fun W (h : Below w7.heap.size w7 W) => pHex_any w7.heap.size (.agg #[.int .i64 q, .slice A5 la.length c5]) q la W (HE.out _ (same_of bw7 h)) (hIa.keep h) h.size
      have KB := fun W (h : Below w7.heap.size w7 W) => pHex_any w7.heap.size (.agg #[.int .i64 q, .slice A6 lb.length c6]) q lb W (HE.out _ (same_of bw7 h)) (hIb.keep h) h.size
      have KP := fun W (h : Below w7.heap.size w7 W) => pParse_any (bs (BM.hexL la)) W (HE.out _ (same_of bw7 h)) (by rw [hexB_size, HLA.out]; omega)
      have KC := fun W (h : Below w7.heap.size w7 W) => pCompare_any w7.heap.size (.agg #[.int .i64 q, .slice A5 la.length c5]) (.agg #[.int .i64 q, .slice A6 lb.length c6]) q la q lb W (HE.out _ (same_of bw7 h)) (hIa.keep h) (hIb.keep h) h.size
      have KD := fun W (h : Below w7.heap.size w7 W) => pCompare_any w7.heap.size (.agg #[.int .i64 q, .slice A6 lb.length c6]) (.agg #[.int .i64 q, .slice A5 la.length c5]) q lb q la W (HE.out _ (same_of bw7 h)) (hIb.keep h) (hIa.keep h) h.size
      rw [hexM_ok HOKa.out] at KA
      rw [hexM_ok HOKb.out] at KB
      rw [list_bs, BM.parse_hex HOKa.out] at KP
      have hlt1 := less_hex la lb
      have hlt2 := less_hex lb la
      have hc1 := eq_of_beq (BM.cmp_lt (L := q) (show la.length = lb.length by rw [HLA.out, HLB.out]))
      have hc2 := eq_of_beq (BM.cmp_gt (L := q) (show la.length = lb.length by rw [HLA.out, HLB.out]))
      rw [← hc1] at hlt1
      rw [← hc2] at hlt2
      have hrc := cmp_range q la q lb
      have hneg := BM.cmpM_neg q la q lb
      generalize BM.cmpM q la q lb = cm at *
      generalize BM.cmpM q lb q la = cn at *
      generalize bs (BM.hexL la) = sa at *
      generalize bs (BM.hexL lb) = sb at *
      have hw1 : IntKind.i64.wrap (-cn) = cm := by
        simp [IntKind.wrap, IntKind.bits, IntKind.signed]
        omega
      have HKA := Lib.hid KA
      have HKB := Lib.hid KB
      have HKP := Lib.hid KP
      have HKC := Lib.hid KC
      have HKD := Lib.hid KD
      have HW1 := Lib.hid hw1
      have HLT1 := Lib.hid hlt1
      have HLT2 := Lib.hid hlt2
      have HIA := Lib.hid hIa
      have HBV := Lib.hid bw7
      clear KA KB KP KC KD hw1 hlt1 hlt2 hc1 hc2 hrc hneg hx7 hy7 hIa hIb bw7
      go_wp2_with fail
      refine (HKA.out _ (Below.refl _ _)).mono ?_
      rintro e v1 ⟨rfl, c1⟩
      clear x0 x1
      obtain ⟨y0, y1⟩ := HYR.out _ c1
      go_wp2_with fail
      refine (HKB.out _ c1).mono ?_
      rintro e v2 ⟨rfl, c2⟩
      clear y0 y1
      have d2 := same_of c1 c2
      go_wp2_with fail
      refine (HKP.out _ d2).mono ?_
      rintro e v3 ⟨uz, rfl, hoz, -, c3⟩
      obtain ⟨Az, cz, rfl⟩ : ∃ A c, uz = .slice A la.length c := hoz.slice_
      have d3 := same_of d2 c3
      obtain ⟨W9, hW9⟩ : ∃ W, W = v3.alloc (.cells #[.int .i64 q, .slice Az la.length cz] 25) := ⟨_, rfl⟩
      have hz9 : W9.heap[v3.heap.size]? = some (.cells #[.int .i64 q, .slice Az la.length cz] 25 (0, 0)) := by rw [hW9]; exact heap_alloc_new v3 _
      have d9 : Below w7.heap.size w7 W9 := by rw [hW9]; exact same_al d3
      have hIz : IsBits W9.heap.size W9 (.agg #[.int .i64 q, .slice Az la.length cz]) q la := by rw [hW9]; exact made_next hoz hrg _
      have HWE := Lib.hid hW9
      obtain ⟨x0, x1⟩ := HXR.out _ d3
      obtain ⟨y0, y1⟩ := HYR.out _ d3
      have hX3 : X < v3.heap.size := Nat.lt_of_lt_of_le hXV d3.size
      have hY3 : X + 1 < v3.heap.size := Nat.lt_of_lt_of_le hYV d3.size
      clear hW9 hoz c3 d2 c2 c1
      go_wp2_with fail
      rw [← HWE.out]
      clear HWE x0 x1 y0 y1 hX3 hY3 d3
      generalize v3.heap.size = Z at *
      refine (HKC.out _ d9).mono ?_
      rintro e v4 ⟨rfl, c4⟩
      have d4 := same_of d9 c4
      have hlt1 := HLT1.out
      have hlt2 := HLT2.out
      have hgt := eq_bytes hlt1 hlt2
      obtain ⟨x0, x1⟩ := HXR.out _ d4
      obtain ⟨y0, y1⟩ := HYR.out _ d4
      obtain ⟨⟨z0, z1⟩, -⟩ := row2 ((c4.block Z (Array.getElem?_eq_some_iff.1 hz9).1).trans hz9)
      have HIZ := Lib.hid ((hIz.keep c4).more c4.size)
      have hsv := d4.size
      clear hz9 hIz c4 d9
      go_wp2_with fail
      refine (same_self v4.heap.size _ _ q la _ HIZ.out ((HIA.out.keep d4).more d4.size) (Nat.le_refl _)).mono ?_
      rintro e v5 ⟨rfl, c5⟩
      have d5 := same_of d4 c5
      clear x0 x1 y0 y1 z0 z1
      obtain ⟨x0, x1⟩ := HXR.out _ d5
      obtain ⟨y0, y1⟩ := HYR.out _ d5
      have hw1 := HW1.out
      clear d4 c5
      go_wp2_with fail
      refine (HKD.out _ d5).mono ?_
      rintro e v6 ⟨rfl, c6⟩
      have d6 := same_of HBV.out (same_of d5 c6)
      go_wp2
      go_ret
      exact ⟨rfl, d6⟩
    · -- a copy of the first, one bit perhaps turned
      have hoka := HOKa.out
      obtain ⟨hne, hl9⟩ := okB_ne hoka
      obtain ⟨N1, hN1⟩ : ∃ N1, la.length = N1 + 1 := ⟨la.length - 1, by have := List.length_pos_iff.2 hne; omega⟩
      have C8 := rCopy_any w7.heap.size (.agg #[.int .i64 q, .slice A5 la.length c5]) q la w7 (hoA7.bits hrg) (Nat.le_refl _) hl9 hne
      have HC8 := Lib.hid C8
      have hk1 : N1 < la.length := by omega
      have hwl : IntKind.i64.wrap ((la.length : Int) - 1) = (N1 : Int) := by
        rw [hN1]
        simp [IntKind.wrap, IntKind.bits, IntKind.signed]
        omega
      have HN1 := Lib.hid hN1
      have HWL := Lib.hid hwl
      have HOA7 := Lib.hid hoA7
      have HD7 := Lib.hid hd7
      obtain ⟨⟨x0, x1⟩, -⟩ := row2 hx7
      clear hoka hN1 hwl hoA7 hoB7 hd7 C8
      go_wp2_with fail
      refine HC8.out.mono ?_
      rintro e w8 ⟨u8, rfl, own8, b8⟩
      obtain ⟨g8, cap, rfl, hg8, hg8', hcap, hcap2⟩ := own8.form hne
      unfold maxLen at hcap2
      have hX7 := (Array.getElem?_eq_some_iff.1 hx7).1
      have hY7 := (Array.getElem?_eq_some_iff.1 hy7).1
      have hx8 := (b8.block X hX7).trans hx7
      have hy8 := (b8.block (X + 1) hY7).trans hy7
      obtain ⟨⟨y0, y1⟩, f0, f1⟩ := row2 hy8
      have hwX : w.heap.size ≤ X + 1 := by omega
      obtain ⟨W8, hW8⟩ : ∃ W, W = (w8.setCell ⟨X + 1, 0, none⟩ (.int .i64 q)).setCell ⟨X + 1, 1, none⟩ (.slice (some ⟨g8, 0, none⟩) la.length cap) := ⟨_, rfl⟩
      have hxW : W8.heap[X]? = some (.cells #[.int .i64 q, .slice A5 la.length c5] 25 (0, 0)) := by
        rw [hW8]
        exact (Below.heap_setCell _ ⟨X + 1, 1, none⟩ _ X (by show X ≠ X + 1; omega)).trans ((Below.heap_setCell w8 ⟨X + 1, 0, none⟩ _ X (by show X ≠ X + 1; omega)).trans hx8)
      have hyW : W8.heap[X + 1]? = some (.cells #[.int .i64 q, .slice (some ⟨g8, 0, none⟩) la.length cap] 25 (0, 0)) := by
        rw [hW8]
        exact cells_set (cells_set hy8 0 (.int .i64 q)) 1 (.slice (some ⟨g8, 0, none⟩) la.length cap)
      have bW8 : Below w.heap.size w W8 := by rw [hW8]; exact same_set (same_set (same_of bw7 b8) hwX) hwX
      have ownW : OwnsW w7.heap.size W8 (.slice (some ⟨g8, 0, none⟩) la.length cap) la := by
        rw [hW8]
        exact (own8.set (p := ⟨X + 1, 0, none⟩) (by show X + 1 < w7.heap.size; omega) _).set (p := ⟨X + 1, 1, none⟩) (by show X + 1 < w7.heap.size; omega) _
      have hdW : Deck g W8 := by
        rw [hW8]
        refine (HD7.out.below b8 HD7.out.lt).keep fun j hj => ?_
        exact (Below.heap_setCell _ ⟨X + 1, 1, none⟩ _ j (by show j ≠ X + 1; omega)).trans (Below.heap_setCell w8 ⟨X + 1, 0, none⟩ _ j (by show j ≠ X + 1; omega))
      have hoAW : OwnsW w4.heap.size W8 (.slice A5 la.length c5) la := by
        rw [hW8]
        exact OwnsW.away (OwnsW.away (HOA7.out.keep b8) (p := ⟨X + 1, 0, none⟩) (fun e => absurd (HNA.out _ e) (by show ¬ X + 1 < X; omega)) _) (p := ⟨X + 1, 1, none⟩) (fun e => absurd (HNA.out _ e) (by show ¬ X + 1 < X; omega)) _
      have hs8 := b8.size
      have hsW8 : W8.heap.size = w8.heap.size := by rw [hW8]; simp [World.setCell]
      have HWE := Lib.hid hW8
      clear x0 x1 own8 b8 hx8 hy8 hx7 hy7 bw7 HC8 HD7 hW8
      go_wp2_with fail
      rw [← HWE.out]
      clear HWE y0 y1 f0 f1
      obtain ⟨⟨y0, y1⟩, -⟩ := row2 hyW
      obtain ⟨k0, kf⟩ := ownW.cellAt N1 hk1 rfl
      have hwl := HWL.out
      have HOW := Lib.hid ownW
      have HDW := Lib.hid hdW
      have HXW := Lib.hid hxW
      have HYW := Lib.hid hyW
      have HAW := Lib.hid hoAW
      have HBW := Lib.hid bW8
      have hX8 : X + 1 < W8.heap.size := by omega
      have hgX : g < X := by omega
      have hg78 : g < g8 := by omega
      clear ownW hdW hxW hyW hoAW bW8
      generalize hwd : la[N1] = wd at *
      have HWD := Lib.hid hwd
      clear hwd
      apply via_two (F := fun w9 z => w9.heap[X]? = some (.cells #[.int .i64 q, .slice A5 la.length c5] 25 (0, 0)) ∧ w9.heap[X + 1]? = some (.cells #[.int .i64 q, .slice (some ⟨g8, 0, none⟩) la.length cap] 25 (0, 0)) ∧ OwnsW w7.heap.size w9 (.slice (some ⟨g8, 0, none⟩) la.length cap) la ∧ OwnsW w4.heap.size w9 (.slice A5 la.length c5) la ∧ Below w.heap.size w w9 ∧ w7.heap.size ≤ w9.heap.size)
      · intro hN
        go_region_with
          (go_at_call 12
           refine (Next_any g _ (by exact HDW.out) 2 (by omega) (by omega)).mono ?_
           rintro e w9 ⟨x, rfl, hx01, hd9, g9⟩
           obtain ⟨z, rfl⟩ := as64 (x := x) ⟨hx01.1, by omega⟩
           have HX9 := Lib.hid ((g9.block X (by show X < W8.heap.size; omega) (fun e => by injection e; omega)).trans (by exact HXW.out))
           have HY9 := Lib.hid ((g9.block (X + 1) (by show X + 1 < W8.heap.size; omega) (fun e => by injection e; omega)).trans (by exact HYW.out))
           have own9 : OwnsW w7.heap.size w9 (.slice (some ⟨g8, 0, none⟩) la.length cap) la := owns_grown (by exact HOW.out) g9 (fun q hq e => by injection hq with hq; subst hq; have := (owns_at HOW.out e).1; omega)
           have oa9 : OwnsW w4.heap.size w9 (.slice A5 la.length c5) la := owns_grown (by exact HAW.out) g9 (fun q hq e => by injection hq with hq; subst hq; have := (owns_at HAW.out e).1; omega)
           have bw9 : Below w.heap.size w w9 := Below.trans (by first | exact HBW.out | exact HBW.out.drew | exact below_drewN HBW.out _) (below_of_grown g9 hgw (by exact HBW.out.size))
           have hF : w9.heap[X]? = some (.cells #[.int .i64 q, .slice A5 la.length c5] 25 (0, 0)) ∧ w9.heap[X + 1]? = some (.cells #[.int .i64 q, .slice (some ⟨g8, 0, none⟩) la.length cap] 25 (0, 0)) ∧ OwnsW w7.heap.size w9 (.slice (some ⟨g8, 0, none⟩) la.length cap) la ∧ OwnsW w4.heap.size w9 (.slice A5 la.length c5) la ∧ Below w.heap.size w w9 ∧ w7.heap.size ≤ w9.heap.size := ⟨HX9.out, HY9.out, own9, oa9, bw9, Nat.le_trans (by omega) (show W8.heap.size ≤ w9.heap.size from g9.size)⟩
           have HF := Lib.hid hF
           obtain ⟨⟨y0, y1⟩, -⟩ := row2 HY9.out
           obtain ⟨k0, kf⟩ := own9.cellAt N1 hk1 rfl
           rw [HWD.out] at k0
           have hxr := n64_xor wd z
           have hcv : IntKind.u64.wrap (n64 z) = n64 z := n64_wrap z
           clear own9 oa9 bw9 g9 hd9 hF HX9 HY9)
        all_goals exact hN.out w9 z HF.out
      · rintro w9 z ⟨hx9, hy9, own9, oa9, bw9, hs79⟩
        clear y0 y1 k0 kf hwl HOW HDW HXW HYW HAW HBW
        obtain ⟨V, hV⟩ : ∃ W, W = w9.setCell ⟨g8, N1, none⟩ (.int .u64 (n64 (wd ^^^ z))) := ⟨_, rfl⟩
        have hxV : V.heap[X]? = some (.cells #[.int .i64 q, .slice A5 la.length c5] 25 (0, 0)) := by rw [hV]; exact (Below.heap_setCell w9 ⟨g8, N1, none⟩ _ X (by show X ≠ g8; omega)).trans hx9
        have hyV : V.heap[X + 1]? = some (.cells #[.int .i64 q, .slice (some ⟨g8, 0, none⟩) la.length cap] 25 (0, 0)) := by rw [hV]; exact (Below.heap_setCell w9 ⟨g8, N1, none⟩ _ (X + 1) (by show X + 1 ≠ g8; omega)).trans hy9
        have bV : Below w.heap.size w V := by rw [hV]; exact same_set bw9 (by omega)
        have hIbV : IsBits V.heap.size V (.agg #[.int .i64 q, (.slice (some ⟨g8, 0, none⟩) la.length cap)]) q (la.set N1 (wd ^^^ z)) := by rw [hV]; exact (own9.store N1 (wd ^^^ z)).bits hrg
        have hIaV : IsBits V.heap.size V (.agg #[.int .i64 q, (.slice A5 la.length c5)]) q la := by
          rw [hV]
          exact (OwnsW.away oa9 (p := ⟨g8, N1, none⟩) (fun e => absurd (HNA.out _ e) (by show ¬ g8 < X; omega)) _).bits hrg
        obtain ⟨l2, hl2⟩ : ∃ l2, l2 = la.set N1 (wd ^^^ z) := ⟨_, rfl⟩
        have HOK2 := Lib.hid (show BM.okB q l2 = true by
          have := HOKa.out
          rw [BM.okB_iff] at this ⊢
          rw [hl2, List.length_set]
          exact this)
        have HL2 := Lib.hid (show l2.length = N by rw [hl2, List.length_set]; exact HLA.out)
        rw [← hl2] at hIbV
        rw [← hV]
        clear hV hl2 own9 oa9 bw9 hx9 hy9
        obtain ⟨⟨x0, x1⟩, -⟩ := row2 hxV
        have HXR := Lib.hid (fun W (h : Below V.heap.size V W) => (row2 ((h.block X (Array.getElem?_eq_some_iff.1 hxV).1).trans hxV)).1)
        have HYR := Lib.hid (fun W (h : Below V.heap.size V W) => (row2 ((h.block (X + 1) (Array.getElem?_eq_some_iff.1 hyV).1).trans hyV)).1)
        have hXV := (Array.getElem?_eq_some_iff.1 hxV).1
        have hYV := (Array.getElem?_eq_some_iff.1 hyV).1
        have KA := fun W (h : Below V.heap.size V W) => pHex_any V.heap.size (.agg #[.int .i64 q, .slice A5 la.length c5]) q la W (HE.out _ (same_of bV h)) (hIaV.keep h) h.size
        have KB := fun W (h : Below V.heap.size V W) => pHex_any V.heap.size (.agg #[.int .i64 q, (.slice (some ⟨g8, 0, none⟩) la.length cap)]) q l2 W (HE.out _ (same_of bV h)) (hIbV.keep h) h.size
        have KP := fun W (h : Below V.heap.size V W) => pParse_any (bs (BM.hexL la)) W (HE.out _ (same_of bV h)) (by rw [hexB_size, HLA.out]; omega)
        have KC := fun W (h : Below V.heap.size V W) => pCompare_any V.heap.size (.agg #[.int .i64 q, .slice A5 la.length c5]) (.agg #[.int .i64 q, (.slice (some ⟨g8, 0, none⟩) la.length cap)]) q la q l2 W (HE.out _ (same_of bV h)) (hIaV.keep h) (hIbV.keep h) h.size
        have KD := fun W (h : Below V.heap.size V W) => pCompare_any V.heap.size (.agg #[.int .i64 q, (.slice (some ⟨g8, 0, none⟩) la.length cap)]) (.agg #[.int .i64 q, .slice A5 la.length c5]) q l2 q la W (HE.out _ (same_of bV h)) (hIbV.keep h) (hIaV.keep h) h.size
        rw [hexM_ok HOKa.out] at KA
        rw [hexM_ok HOK2.out] at KB
        rw [list_bs, BM.parse_hex HOKa.out] at KP
        have hlt1 := less_hex la l2
        have hlt2 := less_hex l2 la
        have hc1 := eq_of_beq (BM.cmp_lt (L := q) (show la.length = l2.length by rw [HLA.out, HL2.out]))
        have hc2 := eq_of_beq (BM.cmp_gt (L := q) (show la.length = l2.length by rw [HLA.out, HL2.out]))
        rw [← hc1] at hlt1
        rw [← hc2] at hlt2
        have hrc := cmp_range q la q l2
        have hneg := BM.cmpM_neg q la q l2
        generalize BM.cmpM q la q l2 = cm at *
        generalize BM.cmpM q l2 q la = cn at *
        generalize bs (BM.hexL la) = sa at *
        generalize bs (BM.hexL l2) = sb at *
        have hw1 : IntKind.i64.wrap (-cn) = cm := by
          simp [IntKind.wrap, IntKind.bits, IntKind.signed]
          omega
        have HKA := Lib.hid KA
        have HKB := Lib.hid KB
        have HKP := Lib.hid KP
        have HKC := Lib.hid KC
        have HKD := Lib.hid KD
        have HW1 := Lib.hid hw1
        have HLT1 := Lib.hid hlt1
        have HLT2 := Lib.hid hlt2
        have HIA := Lib.hid hIaV
        have HBV := Lib.hid bV
        clear KA KB KP KC KD hw1 hlt1 hlt2 hc1 hc2 hrc hneg hxV hyV hIaV hIbV bV
        go_wp2_with fail
        refine (HKA.out _ (Below.refl _ _)).mono ?_
        rintro e v1 ⟨rfl, c1⟩
        clear x0 x1
        obtain ⟨y0, y1⟩ := HYR.out _ c1
        go_wp2_with fail
        refine (HKB.out _ c1).mono ?_
        rintro e v2 ⟨rfl, c2⟩
        clear y0 y1
        have d2 := same_of c1 c2
        go_wp2_with fail
        refine (HKP.out _ d2).mono ?_
        rintro e v3 ⟨uz, rfl, hoz, -, c3⟩
        obtain ⟨Az, cz, rfl⟩ : ∃ A c, uz = .slice A la.length c := hoz.slice_
        have d3 := same_of d2 c3
        obtain ⟨W9, hW9⟩ : ∃ W, W = v3.alloc (.cells #[.int .i64 q, .slice Az la.length cz] 25) := ⟨_, rfl⟩
        have hz9 : W9.heap[v3.heap.size]? = some (.cells #[.int .i64 q, .slice Az la.length cz] 25 (0, 0)) := by rw [hW9]; exact heap_alloc_new v3 _
        have d9 : Below V.heap.size V W9 := by rw [hW9]; exact same_al d3
        have hIz : IsBits W9.heap.size W9 (.agg #[.int .i64 q, .slice Az la.length cz]) q la := by rw [hW9]; exact made_next hoz hrg _
        have HWE := Lib.hid hW9
        obtain ⟨x0, x1⟩ := HXR.out _ d3
        obtain ⟨y0, y1⟩ := HYR.out _ d3
        have hX3 : X < v3.heap.size := Nat.lt_of_lt_of_le hXV d3.size
        have hY3 : X + 1 < v3.heap.size := Nat.lt_of_lt_of_le hYV d3.size
        clear hW9 hoz c3 d2 c2 c1
        go_wp2_with fail
        rw [← HWE.out]
        clear HWE x0 x1 y0 y1 hX3 hY3 d3
        generalize v3.heap.size = Z at *
        refine (HKC.out _ d9).mono ?_
        rintro e v4 ⟨rfl, c4⟩
        have d4 := same_of d9 c4
        have hlt1 := HLT1.out
        have hlt2 := HLT2.out
        have hgt := eq_bytes hlt1 hlt2
        obtain ⟨x0, x1⟩ := HXR.out _ d4
        obtain ⟨y0, y1⟩ := HYR.out _ d4
        obtain ⟨⟨z0, z1⟩, -⟩ := row2 ((c4.block Z (Array.getElem?_eq_some_iff.1 hz9).1).trans hz9)
        have HIZ := Lib.hid ((hIz.keep c4).more c4.size)
        have hsv := d4.size
        clear hz9 hIz c4 d9
        go_wp2_with fail
        refine (same_self v4.heap.size _ _ q la _ HIZ.out ((HIA.out.keep d4).more d4.size) (Nat.le_refl _)).mono ?_
        rintro e v5 ⟨rfl, c5⟩
        have d5 := same_of d4 c5
        clear x0 x1 y0 y1 z0 z1
        obtain ⟨x0, x1⟩ := HXR.out _ d5
        obtain ⟨y0, y1⟩ := HYR.out _ d5
        have hw1 := HW1.out
        clear d4 c5
        go_wp2_with fail
        refine (HKD.out _ d5).mono ?_
        rintro e v6 ⟨rfl, c6⟩
        have d6 := same_of HBV.out (same_of d5 c6)
        go_wp2
        go_ret
        exact ⟨rfl, d6⟩
  · have hd : decide (n ≤ 400) = false := by simp [hn]
    rw [hd]
    clear hd
    go_wp2_with fail
    refine (awake9_any w1 (HE.out _ b1)).mono ?_
    rintro e w2 ⟨rfl, b2⟩
    go_wp2
    go_ret
    exact ⟨rfl, same_of b1 b2⟩
end Go.Proofs.Ytfcnodiepdnegaa
