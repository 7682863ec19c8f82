/- The program's lengths, places, masks, comparisons of numbers, digits, and its count of a word's bits. -/
import Derived.Test.YtfcnodiepdnegaaBitText
import Derived.Test.YtfcnodiepdnegaaBitOnes
import Derived.Laws.Bits128
namespace Go.Proofs.Ytfcnodiepdnegaa
open Go.RowKit
set_option linter.unusedVariables false
set_option maxRecDepth 100000

/-- What the program's own package-level variables hold: none so far. -/
def PEnv (_ : World) : Prop := True
theorem PEnv.below {B : Nat} {w w' : World} (_ : PEnv w) (_ : Below B w w') (_ : w.heap.size ≤ B) : PEnv w' := trivial
theorem PEnv.alloc {w : World} (_ : PEnv w) (u : Obj) : PEnv (w.alloc u) := trivial
theorem PEnv.grown {w w' : World} {g : Nat} (_ : PEnv w) (_ : w.grownBy w' (some g)) : PEnv w' := trivial

set_option maxHeartbeats 1000000 in
theorem plen_any (n : Int) (w : World) (hn : -9223372036854775808 ≤ n ∧ n ≤ 9223372036854775807) :
    Calls Try.prog 41 #[.int .i64 n] w fun e w' => e = .returned (.bool (BM.lenB n)) ∧ w' = w := by
  by_cases h1 : 64 ≤ n
  · by_cases h2 : n ≤ 512
    · have HV := Lib.hid (show (n % 64 == 0) = BM.lenB n by unfold BM.lenB; rw [decide_eq_true h1, decide_eq_true h2, beq_dec]; rfl)
      go_enter Try.func41, Try.ntmps41
      go_wp2
      go_ret
      exact ⟨ret_bool HV.out, rfl⟩
    · have HV := Lib.hid (show false = BM.lenB n by unfold BM.lenB; rw [decide_eq_true h1, decide_eq_false h2]; rfl)
      go_enter Try.func41, Try.ntmps41
      go_wp2
      go_ret
      exact ⟨ret_bool HV.out, rfl⟩
  · have HV := Lib.hid (show false = BM.lenB n by unfold BM.lenB; rw [decide_eq_false h1]; rfl)
    go_enter Try.func41, Try.ntmps41
    go_wp2
    go_ret
    exact ⟨ret_bool HV.out, rfl⟩
set_option maxHeartbeats 1000000 in
theorem pValid_any (B : Nat) (v : Value) (L : Int) (l : List UInt64) (w : World) (_ : PEnv w) (ha : IsBits B w v L l) (hB : B ≤ w.heap.size) :
    Calls Try.prog 32 #[v] w fun e w' => e = .returned (.bool (BM.okB L l)) ∧ Below w.heap.size w w' := by
  obtain ⟨sv, rfl, hs, hL⟩ := ha
  obtain ⟨a, c, rfl, h1, h2, -⟩ := hs.cells
  clear hs
  have hb : Below w.heap.size w (w.alloc (.cells #[.int .i64 L, .slice a l.length c] 25)) := (Below.refl _ w).alloc (Nat.le_refl _) _
  have HL := Lib.hid (fun W => plen_any L W hL)
  have HO := Lib.hid (show BM.okB L l = (BM.lenB L && decide ((l.length : Int) = L / 64)) from rfl)
  go_enter Try.func32, Try.ntmps32
  go_wp2_with fail
  refine (HL.out _).mono ?_
  rintro e w1 ⟨rfl, hw⟩
  subst w1
  cases hl : BM.lenB L
  · go_wp2
    go_ret
    exact ⟨ret_bool (by rw [HO.out, hl]; rfl), hb⟩
  · obtain ⟨g1, g2, -⟩ := len_range hl
    go_wp2
    go_ret
    exact ⟨ret_bool (by rw [HO.out, hl, beq_dec]; rfl), hb⟩
set_option maxHeartbeats 1000000 in
theorem pinside_any (v : Value) (L : Int) (u : Value) (i : Int) (w : World) (hv : v = .agg #[.int .i64 L, u]) :
    Calls Try.prog 53 #[v, .int .i64 i] w fun e w' => e = .returned (.bool (decide (0 ≤ i) && decide (i < L))) ∧ Below w.heap.size w w' := by
  subst hv
  have hb : Below w.heap.size w (w.alloc (.cells #[.int .i64 L, u] 25)) := (Below.refl _ w).alloc (Nat.le_refl _) _
  by_cases h0 : 0 ≤ i
  · have HV := Lib.hid (show decide (i < L) = (decide (0 ≤ i) && decide (i < L)) by rw [decide_eq_true h0]; rfl)
    go_enter Try.func53, Try.ntmps53
    go_wp2
    go_ret
    exact ⟨ret_bool HV.out, hb⟩
  · have HV := Lib.hid (show false = (decide (0 ≤ i) && decide (i < L)) by rw [decide_eq_false h0]; rfl)
    go_enter Try.func53, Try.ntmps53
    go_wp2
    go_ret
    exact ⟨ret_bool HV.out, hb⟩
set_option maxHeartbeats 1000000 in
theorem pmask_any (m : Nat) (w : World) (hm : m < 1000000) :
    Calls Try.prog 55 #[.int .i64 m] w fun e w' => e = .returned (.int .u64 (n64 ((1 : UInt64) <<< (m % 64).toUInt64))) ∧ w' = w := by
  have hsh := n64_bit (m % 64) (Nat.mod_lt _ (by decide))
  go_enter Try.func55, Try.ntmps55
  go_wp2
  go_ret
  exact ⟨by show Ending.returned (.int .u64 (IntKind.u64.wrap (2 ^ (m % 64)))) = _; rw [hsh], rfl⟩
set_option maxHeartbeats 1000000 in
theorem isNaN_int (a : Int) (w : World) :
    Calls Try.prog 60 #[.int .i64 a] w fun e w' => e = .returned (.bool false) ∧ w' = w := by
  have t0 : (a == a) = true := by simp
  go_enter Try.func60, Try.ntmps60
  go_wp2
  go_ret
  exact ⟨rfl, rfl⟩
set_option maxHeartbeats 1000000 in
theorem isNaN_word (a : Int) (w : World) :
    Calls Try.prog 62 #[.int .u64 a] w fun e w' => e = .returned (.bool false) ∧ w' = w := by
  have t0 : (a == a) = true := by simp
  go_enter Try.func62, Try.ntmps62
  go_wp2
  go_ret
  exact ⟨rfl, rfl⟩
set_option maxHeartbeats 1000000 in
theorem cmpInt_any (a b : Int) (w : World) :
    Calls Try.prog 50 #[.int .i64 a, .int .i64 b] w fun e w' => e = .returned (.int .i64 (BM.ordM a b)) ∧ w' = w := by
  have HN := Lib.hid (fun a W => isNaN_int a W)
  have HO := Lib.hid (show BM.ordM a b = if a < b then -1 else if b < a then 1 else 0 from rfl)
  go_enter Try.func50, Try.ntmps50
  go_wp2_with fail
  refine (HN.out _ _).mono ?_
  rintro e w1 ⟨rfl, hw⟩
  subst w1
  go_wp2_with fail
  refine (HN.out _ _).mono ?_
  rintro e w1 ⟨rfl, hw⟩
  subst w1
  by_cases h1 : a < b
  · have HV := Lib.hid (show (-1 : Int) = BM.ordM a b by rw [HO.out, if_pos h1])
    go_wp2
    go_ret
    exact ⟨ret_int HV.out, rfl⟩
  · by_cases h2 : b < a
    · have HV := Lib.hid (show (1 : Int) = BM.ordM a b by rw [HO.out, if_neg h1, if_pos h2])
      go_wp2
      go_ret
      exact ⟨ret_int HV.out, rfl⟩
    · have HV := Lib.hid (show (0 : Int) = BM.ordM a b by rw [HO.out, if_neg h1, if_neg h2])
      go_wp2
      go_ret
      exact ⟨ret_int HV.out, rfl⟩
set_option maxHeartbeats 1000000 in
theorem cmpWord_any (a b : Int) (w : World) :
    Calls Try.prog 61 #[.int .u64 a, .int .u64 b] w fun e w' => e = .returned (.int .i64 (BM.ordM a b)) ∧ w' = w := by
  have HN := Lib.hid (fun a W => isNaN_word a W)
  have HO := Lib.hid (show BM.ordM a b = if a < b then -1 else if b < a then 1 else 0 from rfl)
  go_enter Try.func61, Try.ntmps61
  go_wp2_with fail
  refine (HN.out _ _).mono ?_
  rintro e w1 ⟨rfl, hw⟩
  subst w1
  go_wp2_with fail
  refine (HN.out _ _).mono ?_
  rintro e w1 ⟨rfl, hw⟩
  subst w1
  by_cases h1 : a < b
  · have HV := Lib.hid (show (-1 : Int) = BM.ordM a b by rw [HO.out, if_pos h1])
    go_wp2
    go_ret
    exact ⟨ret_int HV.out, rfl⟩
  · by_cases h2 : b < a
    · have HV := Lib.hid (show (1 : Int) = BM.ordM a b by rw [HO.out, if_neg h1, if_pos h2])
      go_wp2
      go_ret
      exact ⟨ret_int HV.out, rfl⟩
    · have HV := Lib.hid (show (0 : Int) = BM.ordM a b by rw [HO.out, if_neg h1, if_neg h2])
      go_wp2
      go_ret
      exact ⟨ret_int HV.out, rfl⟩
set_option maxHeartbeats 1000000 in
theorem and_any (x y : UInt64) (w : World) :
    Calls Try.prog 45 #[.int .u64 (n64 x), .int .u64 (n64 y)] w fun e w' => e = .returned (.int .u64 (n64 (x &&& y))) ∧ w' = w := by
  have h := n64_and x y
  go_enter Try.func45, Try.ntmps45
  go_wp2
  go_ret
  exact ⟨rfl, rfl⟩
set_option maxHeartbeats 1000000 in
theorem or_any (x y : UInt64) (w : World) :
    Calls Try.prog 47 #[.int .u64 (n64 x), .int .u64 (n64 y)] w fun e w' => e = .returned (.int .u64 (n64 (x ||| y))) ∧ w' = w := by
  have h := n64_or x y
  go_enter Try.func47, Try.ntmps47
  go_wp2
  go_ret
  exact ⟨rfl, rfl⟩
set_option maxHeartbeats 1000000 in
theorem xor_any (x y : UInt64) (w : World) :
    Calls Try.prog 48 #[.int .u64 (n64 x), .int .u64 (n64 y)] w fun e w' => e = .returned (.int .u64 (n64 (x ^^^ y))) ∧ w' = w := by
  have h := n64_xor x y
  go_enter Try.func48, Try.ntmps48
  go_wp2
  go_ret
  exact ⟨rfl, rfl⟩
theorem tuple_eq {a b : Int} {p q : Bool} (h : a = b) (k : p = q) : Ending.returned (.tuple #[.int .u64 a, .bool p]) = .returned (.tuple #[.int .u64 b, .bool q]) := by rw [h, k]
set_option maxHeartbeats 1000000 in
theorem pdigit_any (c : UInt8) (w : World) :
    Calls Try.prog 58 #[.int .u8 (c.toNat : Int)] w fun e w' => e = .returned (.tuple #[.int .u64 (((BM.undig c).getD 0 : Nat) : Int), .bool (BM.undig c).isSome]) ∧ w' = w := by
  have hc := c.toNat_lt
  have HU := Lib.hid (show BM.undig c = if 48 ≤ c.toNat ∧ c.toNat ≤ 57 then some (c.toNat - 48) else if 97 ≤ c.toNat ∧ c.toNat ≤ 102 then some (c.toNat - 87) else none from rfl)
  generalize BM.undig c = U at *
  generalize c.toNat = n at *
  by_cases h0 : 48 ≤ n ∧ n ≤ 57
  · rw [if_pos h0] at HU
    obtain ⟨m, rfl⟩ : ∃ m, n = m + 48 := ⟨n - 48, by omega⟩
    have HV := Lib.hid (show U = some m by rw [HU.out]; congr 1)
    obtain ⟨g1, g2⟩ := h0
    clear HU
    go_enter Try.func58, Try.ntmps58
    go_wp2
    go_ret2
    rw [HV.out]
    exact ⟨tuple_eq (by simp) rfl, rfl⟩
  · rw [if_neg h0] at HU
    by_cases h1 : 97 ≤ n ∧ n ≤ 102
    · rw [if_pos h1] at HU
      obtain ⟨m, rfl⟩ : ∃ m, n = m + 97 := ⟨n - 97, by omega⟩
      have HV := Lib.hid (show U = some (m + 10) by rw [HU.out]; congr 1)
      obtain ⟨g1, g2⟩ := h1
      have g3 : ¬ (((m + 97 : Nat) : Int) ≤ 57) := by omega
      clear HU h0
      go_enter Try.func58, Try.ntmps58
      go_wp2
      go_ret2
      rw [HV.out]
      exact ⟨tuple_eq (by simp) rfl, rfl⟩
    · rw [if_neg h1] at HU
      have hcase : n < 48 ∨ (¬ n < 48 ∧ 57 < n ∧ n < 97) ∨ (¬ n < 48 ∧ 57 < n ∧ ¬ n < 97 ∧ 102 < n) := by omega
      clear h0 h1
      rcases hcase with h | ⟨h, h2, h3⟩ | ⟨h, h2, h3, h4⟩
      all_goals
        go_enter Try.func58, Try.ntmps58
        go_wp2
        go_ret2
        rw [HU.out]
        exact ⟨rfl, rfl⟩
theorem wrapS (a b c : Nat) (h : c = a + b) (hc : c < 18446744073709551616) : IntKind.u64.wrap ((a : Int) + (b : Int)) = (c : Int) := by
  rw [show ((a : Int) + (b : Int)) = ((c : Nat) : Int) by omega, wrapU, Nat.mod_eq_of_lt hc]
theorem wrapD (a d c : Nat) (h : c = a + a / d) (hc : c < 18446744073709551616) : IntKind.u64.wrap ((a : Int) + (a : Int) / (d : Int)) = (c : Int) := by
  rw [show ((a : Int) + (a : Int) / (d : Int)) = ((c : Nat) : Int) by rw [h, Int.natCast_add, Int.natCast_ediv], wrapU, Nat.mod_eq_of_lt hc]
theorem andD (a d m c : Nat) (h : c = a / d &&& m) (ha : a < 18446744073709551616) (hm : m < 18446744073709551616) : bits .and .u64 ((a : Int) / (d : Int)) (m : Int) = (c : Int) := by
  rw [← Int.natCast_ediv, u64_and_nat _ _ (Nat.lt_of_le_of_lt (Nat.div_le_self _ _) ha) hm, h]
theorem andN (a m c : Nat) (h : c = a &&& m) (ha : a < 18446744073709551616) (hm : m < 18446744073709551616) : bits .and .u64 (a : Int) (m : Int) = (c : Int) := by
  rw [u64_and_nat _ _ ha hm, h]
set_option maxHeartbeats 1000000 in
theorem ones_any (x : UInt64) (w : World) :
    Calls Try.prog 57 #[.int .u64 (n64 x)] w fun e w' => e = .returned (.int .i64 (BM.cnt (BM.bitW x) 64 : Nat)) ∧ w' = w := by
  obtain ⟨N, hN⟩ : ∃ N : Nat, N = x.toNat := ⟨_, rfl⟩
  have hN64 : N < 18446744073709551616 := by rw [hN]; exact x.toNat_lt
  have e0 : n64 x = (N : Int) := by unfold n64; rw [hN]
  have HR := Lib.hid (show BM.cnt (BM.bitW x) 64 = BM.cnt (fun i => N.testBit i) 64 by rw [hN]; rfl)
  generalize BM.cnt (BM.bitW x) 64 = R at *
  rw [e0]
  clear hN e0
  obtain ⟨p1, hp1⟩ : ∃ q : Nat, q = N / 2 &&& 6148914691236517205 := ⟨_, rfl⟩
  obtain ⟨q1, hq1⟩ : ∃ q : Nat, q = N &&& 6148914691236517205 := ⟨_, rfl⟩
  obtain ⟨x1, hx1⟩ : ∃ q : Nat, q = p1 + q1 := ⟨_, rfl⟩
  obtain ⟨p2, hp2⟩ : ∃ q : Nat, q = x1 / 4 &&& 3689348814741910323 := ⟨_, rfl⟩
  obtain ⟨q2, hq2⟩ : ∃ q : Nat, q = x1 &&& 3689348814741910323 := ⟨_, rfl⟩
  obtain ⟨x2, hx2⟩ : ∃ q : Nat, q = p2 + q2 := ⟨_, rfl⟩
  obtain ⟨s3, hs3⟩ : ∃ q : Nat, q = x2 / 16 + x2 := ⟨_, rfl⟩
  obtain ⟨x3, hx3⟩ : ∃ q : Nat, q = s3 &&& 1085102592571150095 := ⟨_, rfl⟩
  obtain ⟨y1, hy1⟩ : ∃ q : Nat, q = x3 + x3 / 256 := ⟨_, rfl⟩
  obtain ⟨y2, hy2⟩ : ∃ q : Nat, q = y1 + y1 / 65536 := ⟨_, rfl⟩
  obtain ⟨y3, hy3⟩ : ∃ q : Nat, q = y2 + y2 / 4294967296 := ⟨_, rfl⟩
  obtain ⟨b1, b2, b3, b4, b5, b6, b7, b8⟩ := BM.ones_steps N x1 x2 x3 y1 y2 (by rw [hx1, hp1, hq1]) (by rw [hx2, hp2, hq2]) (by rw [hx3, hs3]) hy1 hy2
  rw [← hs3] at b3
  rw [← hy3] at b7 b8
  have k1 := andD N 2 6148914691236517205 p1 hp1 hN64 (by decide)
  have k2 := andN N 6148914691236517205 q1 hq1 hN64 (by decide)
  have k3 := wrapS p1 q1 x1 hx1 b1
  have k4 := andD x1 4 3689348814741910323 p2 hp2 b1 (by decide)
  have k5 := andN x1 3689348814741910323 q2 hq2 b1 (by decide)
  have k6 := wrapS p2 q2 x2 hx2 b2
  have k7 : IntKind.u64.wrap ((x2 : Int) / 16 + (x2 : Int)) = (s3 : Int) := by
    rw [Int.add_comm]
    exact wrapD x2 16 s3 (by omega) b3
  have k8 := andN s3 1085102592571150095 x3 hx3 b3 (by decide)
  have k9 := wrapD x3 256 y1 hy1 b5
  have k10 := wrapD y1 65536 y2 hy2 b6
  have k11 := wrapD y2 4294967296 y3 hy3 (by omega)
  have k12 : wrap64 (y3 : Int) = (y3 : Int) := by unfold wrap64; omega
  have k13 : bits .and .i64 (y3 : Int) 127 = (R : Int) := by
    rw [i64_and127, HR.out, ← b8]
    omega
  clear hp1 hq1 hx1 hp2 hq2 hx2 hs3 hx3 hy1 hy2 hy3 b1 b2 b3 b4 b5 b6 b7 b8 HR
  simp only [Int.cast_ofNat_Int] at k1 k2 k4 k5 k8 k9 k10 k11
  go_enter Try.func57, Try.ntmps57
  go_wp2
  go_ret
  exact ⟨rfl, rfl⟩
end Go.Proofs.Ytfcnodiepdnegaa
