/- The reference's Compare, Word, Hex. -/
import Derived.Test.YtfcnodiepdnegaaBitComb
namespace Go.Proofs.Ytfcnodiepdnegaa
open Go.RowKit
set_option linter.unusedVariables false
set_option maxRecDepth 100000

theorem lex_step (l l2 : List UInt64) (k : Nat) (h1 : k < l.length) (h2 : k < l2.length) : BM.lexM (l.drop k) (l2.drop k) = if l[k].toNat < l2[k].toNat then -1 else if l2[k].toNat < l[k].toNat then 1 else BM.lexM (l.drop (k + 1)) (l2.drop (k + 1)) := by
  rw [List.drop_eq_getElem_cons h1, List.drop_eq_getElem_cons h2]
  rfl
theorem n64_cmp (x y : UInt64) : n64 x < n64 y ↔ x.toNat < y.toNat := by
  unfold n64
  omega
set_option maxHeartbeats 2000000 in
theorem rCompare_any (B : Nat) (v v2 : Value) (L L2 : Int) (l l2 : List UInt64) (w : World) (ha : IsBits B w v L l) (hb : IsBits B w v2 L2 l2) (hB : B ≤ w.heap.size) :
    Calls Try.prog 23 #[v, v2] w fun e w' => e = .returned (.int .i64 (BM.cmpM L l L2 l2)) ∧ Below w.heap.size w w' := by
  obtain ⟨A, c, rfl, HA, h1, h2, hL, HCA⟩ := ha.open_
  obtain ⟨A2, c2, rfl, HB2, h3, h4, hL2, HCB⟩ := hb.open_
  clear ha hb HA HB2
  have HO := Lib.hid (fun a b W => rorder_any a b W)
  have hqa : ((w.alloc (.cells #[.int .i64 L, .slice A l.length c] 25)).alloc (.cells #[.int .i64 L2, .slice A2 l2.length c2] 25)).heap[w.heap.size]? = _ := (Below.heap_alloc _ _ _ (by simp)).trans (heap_alloc_new w (.cells #[.int .i64 L, .slice A l.length c] 25))
  have hqb := heap_two8 w (.cells #[.int .i64 L, .slice A l.length c] 25) #[.int .i64 L2, .slice A2 l2.length c2] 25
  have hbw := two_new8 w (.cells #[.int .i64 L, .slice A l.length c] 25) (.cells #[.int .i64 L2, .slice A2 l2.length c2] 25)
  have HM := Lib.hid (show BM.cmpM L l L2 l2 = if BM.ordM L L2 = 0 then (if BM.ordM l.length l2.length = 0 then BM.lexM l l2 else BM.ordM l.length l2.length) else BM.ordM L L2 from rfl)
  go_enter Try.func23, Try.ntmps23
  go_wp2_with fail
  generalize (w.alloc (.cells #[.int .i64 L, .slice A l.length c] 25)).alloc (.cells #[.int .i64 L2, .slice A2 l2.length c2] 25) = W1 at *
  have x1 : W1.cell? ⟨w.heap.size, 1, none⟩ = some (.slice A l.length c) := by rw [cell_of_row _ _ _ _ _ _ hqa]; rfl
  have u1 : W1.cell? ⟨w.heap.size + 1, 1, none⟩ = some (.slice A2 l2.length c2) := by rw [cell_of_row _ _ _ _ _ _ hqb]; rfl
  have HBW := Lib.hid hbw
  clear hqa hqb hbw
  refine (HO.out L L2 _).mono ?_
  rintro e w2 ⟨rfl, hw⟩
  subst w2
  by_cases ho : BM.ordM L L2 = 0
  · rw [ho]
    go_wp2_with fail
    refine (HO.out l.length l2.length _).mono ?_
    rintro e w2 ⟨rfl, hw⟩
    subst w2
    by_cases ho2 : BM.ordM l.length l2.length = 0
    · have hlen : l.length = l2.length := by
        unfold BM.ordM at ho2
        split at ho2
        · cases ho2
        · split at ho2
          · cases ho2
          · omega
      have HLEN := Lib.hid hlen
      have HMR := Lib.hid (show BM.cmpM L l L2 l2 = BM.lexM l l2 by rw [HM.out, if_pos ho, if_pos ho2])
      rw [ho2]
      clear hlen HM ho ho2
      go_wp2_with fail
      go_loopw [7] (fun iv wr => ∃ k : Nat, k ≤ l.length ∧ iv = .int .i64 k ∧ BM.lexM (l.drop k) (l2.drop k) = BM.lexM l l2 ∧ ∃ n, wr = W1.drewN n) (fun iv _ => l.length - (intOf iv).toNat)
      case atStart => exact ⟨0, Nat.zero_le _, rfl, rfl, 0, rfl⟩
      case round =>
        obtain ⟨k, hk, rfl, hlex, n, rfl⟩ := hrel
        have HLX := Lib.hid hlex
        clear hlex
        by_cases hlt : k < l.length
        · have hk2 : k < l2.length := by have := HLEN.out; omega
          have HST := Lib.hid (lex_step l l2 k hlt hk2)
          obtain ⟨b, o, rfl, hbB, c0⟩ := HCA.out k hlt
          obtain ⟨b2, o2, rfl, hbB2, d0⟩ := HCB.out k hk2
          have c1 := (HBW.out.cell (p := ⟨b, o + k, none⟩) (by show b < w.heap.size; omega)).trans c0
          have d1 := (HBW.out.cell (p := ⟨b2, o2 + k, none⟩) (by show b2 < w.heap.size; omega)).trans d0
          have HCM := Lib.hid (And.intro (n64_cmp l[k] l2[k]) (n64_cmp l2[k] l[k]))
          clear c0 d0
          generalize l[k] = x at *
          generalize l2[k] = y at *
          have i1 : (k : Int) < (l.length : Int) := by omega
          have i2 : (k : Int) < (l2.length : Int) := by omega
          clear hk2
          by_cases hxy : n64 x < n64 y
          · have HR := Lib.hid (show (-1 : Int) = BM.cmpM L l L2 l2 by rw [HMR.out, ← HLX.out, HST.out, if_pos (HCM.out.1.1 hxy)])
            go_wp2_with fail
            go_quiet (fail)
            go_wp2
            go_ret
            exact ⟨ret_int HR.out, below_drewN (below_drewN HBW.out _) _⟩
          · by_cases hyx : n64 y < n64 x
            · have HR := Lib.hid (show (1 : Int) = BM.cmpM L l L2 l2 by rw [HMR.out, ← HLX.out, HST.out, if_neg (fun e => hxy (HCM.out.1.2 e)), if_pos (HCM.out.2.1 hyx)])
              go_wp2_with fail
              go_quiet (fail)
              go_wp2_with fail
              go_quiet (fail)
              go_wp2
              go_ret
              exact ⟨ret_int HR.out, below_drewN (below_drewN (below_drewN HBW.out _) _) _⟩
            · have HN := Lib.hid (show BM.lexM (l.drop (k + 1)) (l2.drop (k + 1)) = BM.lexM l l2 by rw [← HLX.out, HST.out, if_neg (fun e => hxy (HCM.out.1.2 e)), if_neg (fun e => hyx (HCM.out.2.2 e))])
              go_wp2_with fail
              go_quiet (fail)
              go_wp2_with fail
              go_quiet (fail)
              go_wp2
              exact ⟨⟨k + 1, by omega, by go_num, HN.out, _, rfl⟩, by simp [intOf]; omega⟩
        · obtain rfl : k = l.length := by omega
          have HR := Lib.hid (show (0 : Int) = BM.cmpM L l L2 l2 by
            have e := HLX.out
            have hl := HLEN.out
            rw [List.drop_length] at e
            rw [HMR.out, ← e]
            rfl)
          go_wp2
          go_ret
          exact ⟨ret_int HR.out, below_drewN HBW.out _⟩
    · have HMR := Lib.hid (show BM.ordM l.length l2.length = BM.cmpM L l L2 l2 by rw [HM.out, if_pos ho, if_neg ho2])
      go_wp2
      go_ret
      exact ⟨ret_int HMR.out, HBW.out⟩
  · have HMR := Lib.hid (show BM.ordM L L2 = BM.cmpM L l L2 l2 by rw [HM.out, if_neg ho])
    go_wp2
    go_ret
    exact ⟨ret_int HMR.out, HBW.out⟩
theorem nib_lt (x : UInt64) (k : Nat) : BM.nib x k < 16 := Nat.mod_lt _ (by decide)
/-- The first m digits of a word. -/
def digF (x : UInt64) (m : Nat) : ByteArray := bs ((List.range m).map fun k => BM.dig (BM.nib x k))
theorem digF_size (x : UInt64) (m : Nat) : (digF x m).size = m := by
  rw [← size_list]
  show (List.map _ _).length = m
  rw [List.length_map, List.length_range]
theorem digits_at : ∀ k, k < 16 → (⟨#[48, 49, 50, 51, 52, 53, 54, 55, 56, 57, 97, 98, 99, 100, 101, 102]⟩ : ByteArray).extract k (k + 1) = ⟨#[BM.dig k]⟩ := by decide
theorem digF_next (x : UInt64) (m : Nat) : digF x (m + 1) = digF x m ++ ⟨#[BM.dig (BM.nib x m)]⟩ := by
  apply ba_ext
  rw [data_add]
  unfold digF
  rw [list_bs, list_bs, List.range_succ, List.map_append]
  rfl
theorem nib_walk (x : UInt64) (m : Nat) (hm : m < 16) : bits .and .u64 (n64 x / 2 ^ (60 - 4 * m)) 15 = (BM.nib x m : Int) := by
  have e : (2 : Int) ^ (60 - 4 * m) = ((2 ^ (60 - 4 * m) : Nat) : Int) := by rw [Int.natCast_pow]; rfl
  rw [e]
  unfold n64 BM.nib
  rw [← Int.natCast_ediv, show (15 : Int) = ((15 : Nat) : Int) from rfl, u64_and_nat _ _ (Nat.lt_of_le_of_lt (Nat.div_le_self _ _) x.toNat_lt) (by decide)]
  rw [show (15 : Nat) = 2 ^ 4 - 1 from rfl, Nat.and_two_pow_sub_one_eq_mod]
set_option maxHeartbeats 2000000 in
theorem rWord_any (x : UInt64) (w : World) :
    Calls Try.prog 56 #[.int .u64 (n64 x)] w fun e w' => e = .returned (.string (digF x 16)) ∧ w' = w := by
  go_enter Try.func56, Try.ntmps56
  go_wp2
  go_loop [3, 4] (fun sv iv => ∃ m : Nat, m ≤ 16 ∧ iv = .int .i64 (60 - 4 * m) ∧ sv = .string (digF x m)) (fun _ iv => (intOf iv + 4).toNat)
  case atStart => exact ⟨0, by omega, rfl, rfl⟩
  case round =>
    obtain ⟨m, hm, rfl, rfl⟩ := hrel
    by_cases hlt : m < 16
    · obtain ⟨J, hJ⟩ : ∃ J : Nat, J = 60 - 4 * m := ⟨_, rfl⟩
      have hJi : (60 : Int) - 4 * (m : Int) = (J : Int) := by omega
      have hnib := nib_walk x m hlt
      rw [← hJ] at hnib
      have hnl := nib_lt x m
      have HNX := Lib.hid (digF_next x m)
      have hex := digits_at (BM.nib x m) hnl
      have hsz := digF_size x m
      have hJ60 : J ≤ 60 := by omega
      have HJ := Lib.hid hJ
      generalize BM.nib x m = d at *
      have hw1 : IntKind.u64.wrap ((d : Int) + 1) = (d : Int) + 1 := by
        simp [IntKind.wrap, IntKind.bits, IntKind.signed]
        omega
      have i1 : (d : Int) + 1 ≤ 16 := by omega
      generalize digF x m = acc at *
      have hsz2 : acc.size ≤ 16 := by rw [hsz]; omega
      clear hJ hsz
      go_wp2
      exact ⟨⟨m + 1, by omega, by have := HJ.out; go_num, by rw [HNX.out]⟩, by have := HJ.out; simp [intOf]; omega⟩
    · obtain rfl : m = 16 := by omega
      go_wp2
      go_ret
      exact ⟨rfl, rfl⟩
end Go.Proofs.Ytfcnodiepdnegaa
