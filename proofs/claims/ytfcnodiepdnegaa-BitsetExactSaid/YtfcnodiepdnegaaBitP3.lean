/- The program's Has, Count, Set. -/
import Derived.Test.YtfcnodiepdnegaaBitP2
import Derived.BigQuiet
import Derived.BigRegion
import Derived.StillTailTactics
namespace Go.Proofs.Ytfcnodiepdnegaa
open Go.RowKit
set_option linter.unusedVariables false
set_option maxRecDepth 100000

/-- The worlds that grew from w. -/
def Grown (w : World) : Type := {W : World // Below w.heap.size w W}
instance grown_some (w : World) : Nonempty (Grown w) := ⟨⟨w, Below.refl _ w⟩⟩
/-- A region that draws its order and whose calls add blocks only: one walk, in the order of the text, in any world that grew from the first. -/
theorem wp_region_below {P : Program} {id : Nat} {Q : Exit → Act → World → Prop} {a : Act} {w : World} {l : List Oper} (hm : P.follows .mixedOrders = true) (hB : Region.lexB .any l.toArray = true)
    (h : wpQuiet P l.toArray (fun W => ∃ x : Grown w, W = x.val) (fun a' => ∀ w', (∃ x : Grown w, w' = x.val) → Q .normal a' w') l a) : (Code.region id l.toArray true).wp P Q a w :=
  wp_region_quiet (C := fun W => ∃ x : Grown w, W = x.val) hm hB ⟨⟨_, below_drewN (Below.refl _ w) 1⟩, rfl⟩ (by simpa using h)
theorem grown_out {w w' : World} (h : ∃ x : Grown w, w' = x.val) : Below w.heap.size w w' := by
  obtain ⟨x, rfl⟩ := h
  exact x.property
theorem grown_call {w : World} {x : Grown w} {P : Program} {f : FuncId} {args : Array Value} {v : Value} (h : Calls P f args x.val fun e w'' => e = .returned v ∧ Below x.val.heap.size x.val w'') :
    Calls P f args x.val fun e w'' => e = .returned v ∧ ∃ y : Grown w, w'' = y.val :=
  h.mono fun _ w'' ⟨he, hb⟩ => ⟨he, ⟨w'', x.property.trans (hb.mono x.property.size)⟩, rfl⟩
theorem grown_same {w : World} {x : Grown w} {P : Program} {f : FuncId} {args : Array Value} {v : Value} (h : Calls P f args x.val fun e w'' => e = .returned v ∧ w'' = x.val) :
    Calls P f args x.val fun e w'' => e = .returned v ∧ ∃ y : Grown w, w'' = y.val :=
  h.mono fun _ w'' ⟨he, hb⟩ => ⟨he, x, hb⟩
theorem grown_cell {w : World} {p : Addr} {v : Value} (h : w.cell? p = some v) (hp : p.block < w.heap.size) (x : Grown w) : x.val.cell? p = some v := (x.property.cell hp).trans h
theorem and_bit (x : UInt64) (k : Nat) (hk : k < 64) : (n64 (x &&& ((1 : UInt64) <<< k.toUInt64)) != 0) = BM.bitW x k := by
  unfold n64 BM.bitW
  rw [UInt64.toNat_and, BM.one_shl k hk]
  cases hb : x.toNat.testBit k
  · have : x.toNat &&& 2 ^ k = 0 := by
      apply Nat.eq_of_testBit_eq
      intro j
      rw [Nat.testBit_and, Nat.testBit_two_pow, Nat.zero_testBit]
      by_cases e : k = j
      · rw [← e, hb, Bool.false_and]
      · rw [decide_eq_false e, Bool.and_false]
    rw [this]
    rfl
  · have : x.toNat &&& 2 ^ k ≠ 0 := by
      intro e
      have := congrArg (fun n => n.testBit k) e
      simp only [Nat.testBit_and, Nat.testBit_two_pow, Nat.zero_testBit, hb] at this
      simp at this
    rw [bne_iff_ne]
    omega
set_option maxHeartbeats 1000000 in
theorem pHas_any (B : Nat) (v : Value) (L : Int) (l : List UInt64) (i : Int) (w : World) (hE : PEnv w) (ha : IsBits B w v L l) (hB : B ≤ w.heap.size) :
    Calls Try.prog 26 #[v, .int .i64 i] w fun e w' => e = .returned (.bool (BM.hasM L l i)) ∧ Below w.heap.size w w' := by
  obtain ⟨A, c, rfl, HI, h1, h2, hL, HC⟩ := ha.open_
  clear ha
  have hb : Below w.heap.size w (w.alloc (.cells #[.int .i64 L, .slice A l.length c] 25)) := (Below.refl _ w).alloc (Nat.le_refl _) _
  have HO := Lib.hid (show BM.hasM L l i = (BM.okB L l && (decide (0 ≤ i) && (decide (i < L) && BM.bitL l i.toNat))) from rfl)
  obtain ⟨W1, hW1⟩ : ∃ W, W = w.alloc (.cells #[.int .i64 L, .slice A l.length c] 25) := ⟨_, rfl⟩
  have hs1 : w.heap.size < W1.heap.size := by rw [hW1]; simp
  have z0 : W1.cell? ⟨w.heap.size, 0, none⟩ = some (.int .i64 L) := by rw [hW1]; exact new_cellW w _ _ 0 _ rfl
  have z1 : W1.cell? ⟨w.heap.size, 1, none⟩ = some (.slice A l.length c) := by rw [hW1]; exact new_cellW w _ _ 1 _ rfl
  rw [← hW1] at hb
  have hB1 : B ≤ W1.heap.size := by omega
  have HV := Lib.hid (fun (x : Grown W1) => pValid_any B (.agg #[.int .i64 L, .slice A l.length c]) L l x.val trivial (HI.out.keep ((same_of hb x.property).mono hB)) (Nat.le_trans hB1 x.property.size))
  have HN := Lib.hid (fun (x : Grown W1) => pinside_any (.agg #[.int .i64 L, .slice A l.length c]) L (.slice A l.length c) i x.val rfl)
  have x0 := grown_cell z0 hs1
  have x1 := grown_cell z1 hs1
  have HW1 := Lib.hid hW1
  have HB := Lib.hid hb
  have HSAME := Lib.hid (fun W (h : Below W1.heap.size W1 W) => same_of hb h)
  clear z0 z1 hb hW1
  cases hok : BM.okB L l
  · rw [hok] at HV
    go_enter Try.func26, Try.ntmps26
    go_wp2_with fail
    rw [← HW1.out]
    refine wp_region_below (by kernel_rfl) (by kernel_rfl) ?_
    repeat (go_big_quiet_step ((first | (go_at_call 32; exact grown_call (HV.out _)) | (go_at_call 53; exact grown_call (HN.out _)))))
    refine wpQuiet_nil ?_
    intro w3 hC
    have hst := HSAME.out _ (grown_out hC)
    clear hC
    go_wp2
    go_ret
    exact ⟨ret_bool (by rw [HO.out, hok]; rfl), hst⟩
  · rw [hok] at HV
    by_cases hin : 0 ≤ i ∧ i < L
    · obtain ⟨hi0, hi1⟩ := hin
      rw [decide_eq_true hi0, decide_eq_true hi1] at HN
      obtain ⟨m, rfl⟩ := Int.eq_ofNat_of_zero_le hi0
      have hml := okB_lt hok hi1
      obtain ⟨b, o, rfl, hbB, c0⟩ := HC.out (m / 64) hml
      have y0 : ∀ x : Grown W1, x.val.cell? ⟨b, o + m / 64, none⟩ = some (.int .u64 (n64 l[m / 64])) := fun x => ((same_of HB.out x.property).cell (p := ⟨b, o + m / 64, none⟩) (by show b < w.heap.size; omega)).trans c0
      have hm5 : m < 1000000 := by rw [BM.okB_iff] at hok; omega
      have HM := Lib.hid (fun (x : Grown W1) => pmask_any m x.val hm5)
      have hbit := and_bit l[m / 64] (m % 64) (Nat.mod_lt _ (by decide))
      have hand := n64_and l[m / 64] ((1 : UInt64) <<< (m % 64).toUInt64)
      have HR := Lib.hid (show BM.bitW l[m / 64] (m % 64) = BM.hasM L l (m : Int) by
          rw [HO.out, hok, decide_eq_true hi0, decide_eq_true hi1]
          simp only [Bool.true_and, Int.toNat_natCast]
          unfold BM.bitL
          rw [List.getD_eq_getElem?_getD, List.getElem?_eq_getElem hml]
          rfl)
      rw [HR.out] at hbit
      generalize l[m / 64] &&& ((1 : UInt64) <<< (m % 64).toUInt64) = Y at *
      generalize ((1 : UInt64) <<< (m % 64).toUInt64) = M at *
      clear c0 hok HC HR HO
      go_enter Try.func26, Try.ntmps26
      go_wp2_with fail
      rw [← HW1.out]
      refine wp_region_below (by kernel_rfl) (by kernel_rfl) ?_
      repeat (go_big_quiet_step ((first | (go_at_call 32; exact grown_call (HV.out _)) | (go_at_call 53; exact grown_call (HN.out _)) | (go_at_call 55; exact grown_same (HM.out _)))))
      refine wpQuiet_nil ?_
      intro w3 hC
      have hst := HSAME.out _ (grown_out hC)
      clear hC
      go_wp2
      go_ret
      exact ⟨rfl, hst⟩
    · have hq : (decide (0 ≤ i) && decide (i < L)) = false := by
        simp only [Bool.and_eq_false_iff, decide_eq_false_iff_not]
        omega
      rw [hq] at HN
      have HR := Lib.hid (show false = BM.hasM L l i by rw [HO.out, ← Bool.and_assoc (decide (0 ≤ i)), hq]; simp)
      clear hq hin hok HO
      go_enter Try.func26, Try.ntmps26
      go_wp2_with fail
      rw [← HW1.out]
      refine wp_region_below (by kernel_rfl) (by kernel_rfl) ?_
      repeat (go_big_quiet_step ((first | (go_at_call 32; exact grown_call (HV.out _)) | (go_at_call 53; exact grown_call (HN.out _)))))
      refine wpQuiet_nil ?_
      intro w3 hC
      have hst := HSAME.out _ (grown_out hC)
      clear hC
      go_wp2
      go_ret
      exact ⟨ret_bool HR.out, hst⟩
theorem pCount_any (B : Nat) (v : Value) (L : Int) (l : List UInt64) (w : World) (_ : PEnv w) (ha : IsBits B w v L l) (hB : B ≤ w.heap.size) :
    Calls Try.prog 34 #[v] w fun e w' => e = .returned (.int .i64 (BM.countM L l : Int)) ∧ Below w.heap.size w w' := by
  obtain ⟨A, c, rfl, HI, h1, h2, hL, HC⟩ := ha.open_
  clear ha
  have hb : Below w.heap.size w (w.alloc (.cells #[.int .i64 L, .slice A l.length c] 25)) := (Below.refl _ w).alloc (Nat.le_refl _) _
  have HV := Lib.hid (fun W h hB => pValid_any B (.agg #[.int .i64 L, .slice A l.length c]) L l W trivial h hB)
  have HK := Lib.hid (HI.out.keep (hb.mono hB))
  have HM := Lib.hid (show BM.countM L l = if BM.okB L l then BM.cnt (BM.bitL l) L.toNat else 0 from rfl)
  generalize BM.countM L l = R at *
  go_enter Try.func34, Try.ntmps34
  go_wp2_with fail
  obtain ⟨W1, hW1⟩ : ∃ W, W = w.alloc (.cells #[.int .i64 L, .slice A l.length c] 25) := ⟨_, rfl⟩
  have z1 : W1.cell? ⟨w.heap.size, 1, none⟩ = some (.slice A l.length c) := by rw [hW1]; exact new_cellW w _ _ 1 _ rfl
  have hs1 : W1.heap.size = w.heap.size + 1 := by rw [hW1]; simp
  rw [← hW1] at hb HK ⊢
  clear hW1
  refine (HV.out _ HK.out (by omega)).mono ?_
  rintro e w2 ⟨rfl, b2⟩
  have hb2 := same_of hb b2
  have y1 := (b2.cell (p := ⟨w.heap.size, 1, none⟩) (by show w.heap.size < W1.heap.size; omega)).trans z1
  clear z1
  cases hok : BM.okB L l
  · have HR := Lib.hid (show R = 0 by rw [HM.out, hok]; rfl)
    go_wp2
    go_ret
    exact ⟨ret_int (by rw [HR.out]; rfl), hb2⟩
  · have HR := Lib.hid (show R = BM.cnt (BM.bitL l) (64 * l.length) by
      rw [HM.out, hok, if_pos rfl]
      rw [BM.okB_iff] at hok
      congr 1
      omega)
    have hl8 : l.length ≤ 8 := by rw [BM.okB_iff] at hok; omega
    have HO := Lib.hid (fun x W => ones_any x W)
    clear hok HM
    go_wp2_with fail
    go_loop [3, 12] (fun nv iv => ∃ k : Nat, k ≤ l.length ∧ iv = .int .i64 k ∧ nv = .int .i64 (BM.cnt (BM.bitL l) (64 * k) : Int)) (fun _ iv => l.length - (intOf iv).toNat)
    case atStart => exact ⟨0, Nat.zero_le _, rfl, rfl⟩
    case round =>
      obtain ⟨k, hk, rfl, rfl⟩ := hrel
      by_cases hlt : k < l.length
      · obtain ⟨b, o, rfl, hbB, c0⟩ := HC.out k hlt
        have c1 := (hb2.cell (p := ⟨b, o + k, none⟩) (by show b < w.heap.size; omega)).trans c0
        have HN := Lib.hid (BM.cnt_words l k hlt)
        have q1 := BM.cnt_bound (BM.bitL l) (64 * k)
        have q2 := BM.cnt_bound (BM.bitW l[k]) 64
        have HO1 := Lib.hid (fun W => HO.out l[k] W)
        generalize BM.cnt (BM.bitW l[k]) 64 = P at *
        generalize BM.cnt (BM.bitL l) (64 * k) = Q at *
        generalize l[k] = x at *
        have i1 : (k : Int) < (l.length : Int) := by omega
        clear c0
        go_wp2_with fail
        refine (HO1.out _).mono ?_
        rintro e w3 ⟨rfl, hw⟩
        subst w3
        go_wp2
        exact ⟨⟨k + 1, by omega, by go_num, by rw [HN.out]; go_num⟩, by simp [intOf]; omega⟩
      · obtain rfl : k = l.length := by omega
        go_wp2
        go_ret
        exact ⟨ret_int (by rw [HR.out]), hb2⟩
end Go.Proofs.Ytfcnodiepdnegaa
