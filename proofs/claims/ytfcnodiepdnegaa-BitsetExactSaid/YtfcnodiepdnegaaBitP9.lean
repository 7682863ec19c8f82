/- The program's Compare. -/
import Derived.Test.YtfcnodiepdnegaaBitP4
namespace Go.Proofs.Ytfcnodiepdnegaa
open Go.RowKit
set_option linter.unusedVariables false
set_option maxRecDepth 100000

/-- The first number that is not zero. -/
def orM : List Int → Int
  | [] => 0
  | a :: l => if a = 0 then orM l else a
/-- How lists of words are compared, the shorter one first where it begins the other. -/
def slM : List UInt64 → List UInt64 → Int
  | [], [] => 0
  | [], _ :: _ => -1
  | _ :: _, [] => 1
  | x :: l, y :: l' => if BM.ordM (n64 x) (n64 y) = 0 then slM l l' else BM.ordM (n64 x) (n64 y)
theorem slM_lex (l l' : List UInt64) (h : l.length = l'.length) : slM l l' = BM.lexM l l' := by
  induction l generalizing l' with
  | nil =>
    cases l' with
    | nil => rfl
    | cons y l' => simp at h
  | cons x l ih =>
    cases l' with
    | nil => simp at h
    | cons y l' =>
      have := n64_cmp x y
      have := n64_cmp y x
      unfold slM BM.lexM BM.ordM
      rw [ih l' (by simpa using h)]
      split <;> split <;> (try split) <;> (try split) <;> omega
theorem cmp_or (L L' : Int) (l l' : List UInt64) : orM [BM.ordM L L', BM.ordM l.length l'.length, slM l l'] = BM.cmpM L l L' l' := by
  unfold BM.cmpM
  simp only [orM]
  split
  · split
    · rename_i h1 h2
      have hl : l.length = l'.length := by
        unfold BM.ordM at h2
        split at h2
        · cases h2
        · split at h2
          · cases h2
          · omega
      rw [slM_lex l l' hl]
      split <;> simp_all
    · rfl
  · rfl
set_option maxHeartbeats 1000000 in
theorem cmpOr_any (xs : List Int) (b : Nat) (w : World) (hl : xs.length = 3) (hc : ∀ k, ∀ hk : k < xs.length, w.cell? ⟨b, k, none⟩ = some (.int .i64 xs[k])) :
    Calls Try.prog 49 #[.slice (some ⟨b, 0, none⟩) 3 3] w fun e w' => e = .returned (.int .i64 (orM xs)) ∧ w' = w := by
  have HC := Lib.hid hc
  have HL := Lib.hid hl
  clear hc hl
  go_enter Try.func49, Try.ntmps49
  go_wp2_with fail
  go_loop [8] (fun iv => ∃ k : Nat, k ≤ 3 ∧ iv = .int .i64 k ∧ orM (xs.drop k) = orM xs) (fun iv => 3 - (intOf iv).toNat)
  case atStart => exact ⟨0, Nat.zero_le _, rfl, rfl⟩
  case round =>
    obtain ⟨k, hk, rfl, ho⟩ := hrel
    have HO := Lib.hid ho
    clear ho
    by_cases hlt : k < 3
    · have hk3 : k < xs.length := by rw [HL.out]; exact hlt
      have c0 := HC.out k hk3
      have HD := Lib.hid (show orM (xs.drop k) = if xs[k] = 0 then orM (xs.drop (k + 1)) else xs[k] by
        rw [List.drop_eq_getElem_cons hk3]
        rfl)
      generalize xs[k] = x at *
      have i1 : (k : Int) < 3 := by omega
      clear hk3
      by_cases hx : x = 0
      · have HN := Lib.hid (show orM (xs.drop (k + 1)) = orM xs by rw [← HO.out, HD.out, if_pos hx])
        subst hx
        go_wp2
        exact ⟨⟨k + 1, by omega, by go_num, HN.out⟩, by simp [intOf]; omega⟩
      · have HN := Lib.hid (show x = orM xs by rw [← HO.out, HD.out, if_neg hx])
        have hb : (x == 0) = false := by simpa using hx
        go_wp2
        go_ret
        exact ⟨ret_int HN.out, rfl⟩
    · obtain rfl : k = 3 := by omega
      have HN := Lib.hid (show (0 : Int) = orM xs by
        have := HO.out
        rw [List.drop_of_length_le (by rw [HL.out]; exact Nat.le_refl _)] at this
        exact this)
      go_wp2
      go_ret
      exact ⟨ret_int HN.out, rfl⟩
set_option maxHeartbeats 2000000 in
theorem slCompare_any (B : Nat) (v v2 : Value) (l l2 : List UInt64) (w : World) (ha : IsWs B w v l) (hb : IsWs B w v2 l2) :
    Calls Try.prog 51 #[v, v2] w fun e w' => e = .returned (.int .i64 (slM l l2)) ∧ w' = w := by
  obtain ⟨A, c, rfl, h1, h2, hCA⟩ := ha.cells
  obtain ⟨A2, c2, rfl, h3, h4, hCB⟩ := hb.cells
  have HCA := Lib.hid hCA
  have HCB := Lib.hid hCB
  unfold maxLen at h2 h4
  clear ha hb hCA hCB
  have HW := Lib.hid (fun a b W => cmpWord_any a b W)
  go_enter Try.func51, Try.ntmps51
  go_wp2_with fail
  go_loop [11] (fun iv => ∃ k : Nat, k ≤ l.length ∧ k ≤ l2.length ∧ iv = .int .i64 k ∧ slM (l.drop k) (l2.drop k) = slM l l2) (fun iv => l.length - (intOf iv).toNat)
  case atStart => exact ⟨0, Nat.zero_le _, Nat.zero_le _, rfl, rfl⟩
  case round =>
    obtain ⟨k, hk, hk2, rfl, ho⟩ := hrel
    have HO := Lib.hid ho
    clear ho
    by_cases hlt : k < l.length
    · obtain ⟨b, o, rfl, -, c0⟩ := HCA.out k hlt
      by_cases hlt2 : k < l2.length
      · obtain ⟨b2, o2, rfl, -, d0⟩ := HCB.out k hlt2
        have HD := Lib.hid (show slM (l.drop k) (l2.drop k) = if BM.ordM (n64 l[k]) (n64 l2[k]) = 0 then slM (l.drop (k + 1)) (l2.drop (k + 1)) else BM.ordM (n64 l[k]) (n64 l2[k]) by
          rw [List.drop_eq_getElem_cons hlt, List.drop_eq_getElem_cons hlt2]
          rfl)
        have HW1 := Lib.hid (fun W => HW.out (n64 l[k]) (n64 l2[k]) W)
        generalize BM.ordM (n64 l[k]) (n64 l2[k]) = q at *
        generalize l[k] = x at *
        generalize l2[k] = y at *
        have i1 : (k : Int) < (l.length : Int) := by omega
        have i2 : (k : Int) < (l2.length : Int) := by omega
        by_cases hq : q = 0
        · have HN := Lib.hid (show slM (l.drop (k + 1)) (l2.drop (k + 1)) = slM l l2 by rw [← HO.out, HD.out, if_pos hq])
          subst hq
          go_wp2_with fail
          refine (HW1.out _).mono ?_
          rintro e w1 ⟨rfl, hw⟩
          subst w1
          go_wp2
          exact ⟨⟨k + 1, by omega, by omega, by go_num, HN.out⟩, by simp [intOf]; omega⟩
        · have HN := Lib.hid (show q = slM l l2 by rw [← HO.out, HD.out, if_neg hq])
          have hb : (q == 0) = false := by simpa using hq
          go_wp2_with fail
          refine (HW1.out _).mono ?_
          rintro e w1 ⟨rfl, hw⟩
          subst w1
          go_wp2
          go_ret
          exact ⟨ret_int HN.out, rfl⟩
      · obtain rfl : k = l2.length := by omega
        have HN := Lib.hid (show (1 : Int) = slM l l2 by
          rw [← HO.out, List.drop_eq_getElem_cons hlt, List.drop_length]
          rfl)
        have i1 : (l2.length : Int) < (l.length : Int) := by omega
        go_wp2
        go_ret
        exact ⟨ret_int HN.out, rfl⟩
    · obtain rfl : k = l.length := by omega
      by_cases hlt2 : l.length < l2.length
      · have HN := Lib.hid (show (-1 : Int) = slM l l2 by
          rw [← HO.out, List.drop_length, List.drop_eq_getElem_cons hlt2]
          rfl)
        go_wp2
        go_ret
        exact ⟨ret_int HN.out, rfl⟩
      · have HN := Lib.hid (show (0 : Int) = slM l l2 by
          rw [← HO.out, List.drop_length, List.drop_of_length_le (by omega)]
          rfl)
        go_wp2
        go_ret
        exact ⟨ret_int HN.out, rfl⟩
set_option maxHeartbeats 2000000 in
theorem pCompare_any (B : Nat) (v : Value) (v2 : Value) (L : Int) (l : List UInt64) (L2 : Int) (l2 : List UInt64) (w : World) (_ : PEnv w) (ha : IsBits B w v L l) (hb : IsBits B w v2 L2 l2) (hB : B ≤ w.heap.size) :
    Calls Try.prog 22 #[v, v2] w fun e w' => e = .returned (.int .i64 (BM.cmpM L l L2 l2)) ∧ Below w.heap.size w w' := by
  obtain ⟨A, c, rfl, HA, h1, h2, hL, -⟩ := ha.open_
  obtain ⟨A2, c2, rfl, HB2, h3, h4, hL2, -⟩ := hb.open_
  clear ha hb
  have HCO := Lib.hid (cmp_or L L2 l l2)
  have hqa : ((w.alloc (.cells #[.int .i64 L, .slice A l.length c] 25)).alloc (.cells #[.int .i64 L2, .slice A2 l2.length c2] 25)).heap[w.heap.size]? = some (.cells #[.int .i64 L, .slice A l.length c] 25 (0, 0)) := (Below.heap_alloc _ _ _ (by simp)).trans (heap_alloc_new w (.cells #[.int .i64 L, .slice A l.length c] 25))
  have hqb := heap_two8 w (.cells #[.int .i64 L, .slice A l.length c] 25) #[.int .i64 L2, .slice A2 l2.length c2] 25
  have hbw := two_new8 w (.cells #[.int .i64 L, .slice A l.length c] 25) (.cells #[.int .i64 L2, .slice A2 l2.length c2] 25)
  obtain ⟨W1, hW1⟩ : ∃ W, W = (w.alloc (.cells #[.int .i64 L, .slice A l.length c] 25)).alloc (.cells #[.int .i64 L2, .slice A2 l2.length c2] 25) := ⟨_, rfl⟩
  rw [← hW1] at hqa hqb hbw
  have HX1 := Lib.hid (fun W => cmpInt_any L L2 W)
  have HX2 := Lib.hid (fun W => cmpInt_any (l.length : Int) (l2.length : Int) W)
  have HX3 := Lib.hid (slCompare_any B _ _ l l2 W1.drew (HA.out.words.keep ((hbw.mono hB).drew)) (HB2.out.words.keep ((hbw.mono hB).drew)))
  have HOR := Lib.hid (fun xs b W h hc => cmpOr_any xs b W h hc)
  generalize BM.ordM L L2 = R1 at *
  generalize BM.ordM (l.length : Int) (l2.length : Int) = R2 at *
  generalize slM l l2 = R3 at *
  obtain ⟨⟨x0, x1⟩, -, -⟩ := row2B hqa
  obtain ⟨⟨u0, u1⟩, -, -⟩ := row2B hqb
  have HBW := Lib.hid (show Below w.heap.size w W1.drew from hbw.drew)
  have HSZ := Lib.hid hbw.size
  clear hqa hqb hbw HA HB2
  go_enter Try.func22, Try.ntmps22
  go_wp2_with fail
  rw [← hW1]
  clear hW1
  refine wp_region_still_tail 17 (by kernel_rfl) (by kernel_rfl) ?_
  simp only [List.take_succ_cons, List.take_zero, List.drop_succ_cons, List.drop_zero]
  repeat still_step
  still_call (HX1.out _)
  repeat still_step
  still_call (HX2.out _)
  repeat still_step
  still_call (HX3.out)
  repeat still_step
  refine wpStill_nil ?_
  change wpList _ _ _ _ _ W1.drew
  generalize W1.drew = W2 at *
  clear HX1 HX2 HX3
  go_wp2_with fail
  refine (HOR.out [R1, R2, R3] _ _ rfl ?hc).mono ?_
  case hc =>
    intro k hk
    have h3 : k < 3 := hk
    have hk3 : k = 0 ∨ k = 1 ∨ k = 2 := by omega
    rcases hk3 with rfl | rfl | rfl
    · exact new_cellW _ _ _ 0 _ rfl
    · exact new_cellW _ _ _ 1 _ rfl
    · exact new_cellW _ _ _ 2 _ rfl
  rintro e w4 ⟨rfl, hw⟩
  subst w4
  rw [HCO.out]
  go_wp2
  go_ret
  exact ⟨rfl, HBW.out.alloc (by have := HSZ.out; exact HBW.out.size) _⟩
end Go.Proofs.Ytfcnodiepdnegaa
