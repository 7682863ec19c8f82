/- The walk of the reference's Parse. -/
import Derived.Test.YtlgnppfompeghaaDoorDateParse2
namespace Go.Proofs.YtlgnppfompeghaaDoor
open Go.RowKit
set_option linter.unusedVariables false

set_option maxHeartbeats 4000000 in
theorem rParse_any (s : ByteArray) (w : World) (hm : s.size ≤ maxLen) :
    Calls Tryd.prog 29 #[.string s] w fun e w' => e = .returned (psV s) ∧ Below w.heap.size w w' := by
  unfold maxLen at hm
  unfold psV
  by_cases h10 : s.size = 10
  · rw [dif_pos h10]
    by_cases k1 : s[4].toNat = 45 ∧ s[7].toNat = 45
    · rw [if_pos k1]
      have t1 : ((s[4].toNat : Int) == 45) = true := by simp; omega
      have t2 : ((s[7].toNat : Int) == 45) = true := by simp; omega
      clear k1
      have e1 := extract_size s 0 4 (by omega)
      have e2 := extract_size s 5 7 (by omega)
      have e3 := extract_size s 8 10 (by omega)
      have C := Lib.hid (fun W => made_any (s.extract 0 4) (s.extract 5 7) (s.extract 8 10) W (by omega) (by omega) (by omega))
      clear e1 e2 e3
      obtain ⟨a, b, c, e, hv⟩ := readV_cases (s.extract 0 4) (s.extract 5 7) (s.extract 8 10)
      rw [hv] at C
      rw [hv]
      clear hv
      unfold dateV at C
      go_enter Tryd.func29, Tryd.ntmps29
      go_wp2
      go_region_with (go_at_call 42; refine (C.out _).mono ?_; rintro e w1 ⟨rfl, b1⟩; obtain ⟨⟨r0, r1, r2, r3, r4, r5⟩, B2⟩ := result_kept w w1 b1)
      go_wp2
      exact bodyPost_ret (v := .tuple #[dateV a b c, .int .i64 e]) (by simp [results, Tryd.results29, dateV, go_sem, r0, r1, r2]) rfl ⟨rfl, below_set3 B2 (Nat.le_refl _) _ _ _⟩
    · rw [if_neg k1]
      have q1 := Lib.hid (show ((s[4].toNat : Int) == 45) = false ∨ ((s[4].toNat : Int) == 45) = true ∧ ((s[7].toNat : Int) == 45) = false from not_both k1)
      clear k1
      by_cases k2 : s[2].toNat = 46 ∧ s[5].toNat = 46
      · rw [if_pos k2]
        have t1 : ((s[2].toNat : Int) == 46) = true := by simp; omega
        have t2 : ((s[5].toNat : Int) == 46) = true := by simp; omega
        clear k2
        rcases q1.out with q1 | ⟨q1, q2⟩
        · have e1 := extract_size s 6 10 (by omega)
          have e2 := extract_size s 3 5 (by omega)
          have e3 := extract_size s 0 2 (by omega)
          have C := Lib.hid (fun W => made_any (s.extract 6 10) (s.extract 3 5) (s.extract 0 2) W (by omega) (by omega) (by omega))
          clear e1 e2 e3
          obtain ⟨a, b, c, e, hv⟩ := readV_cases (s.extract 6 10) (s.extract 3 5) (s.extract 0 2)
          rw [hv] at C
          rw [hv]
          clear hv
          unfold dateV at C
          go_enter Tryd.func29, Tryd.ntmps29
          go_wp2
          go_region_with (go_at_call 42; refine (C.out _).mono ?_; rintro e w1 ⟨rfl, b1⟩; obtain ⟨⟨r0, r1, r2, r3, r4, r5⟩, B2⟩ := result_kept w w1 b1)
          go_wp2
          exact bodyPost_ret (v := .tuple #[dateV a b c, .int .i64 e]) (by simp [results, Tryd.results29, dateV, go_sem, r0, r1, r2]) rfl ⟨rfl, below_set3 B2 (Nat.le_refl _) _ _ _⟩
        · have e1 := extract_size s 6 10 (by omega)
          have e2 := extract_size s 3 5 (by omega)
          have e3 := extract_size s 0 2 (by omega)
          have C := Lib.hid (fun W => made_any (s.extract 6 10) (s.extract 3 5) (s.extract 0 2) W (by omega) (by omega) (by omega))
          clear e1 e2 e3
          obtain ⟨a, b, c, e, hv⟩ := readV_cases (s.extract 6 10) (s.extract 3 5) (s.extract 0 2)
          rw [hv] at C
          rw [hv]
          clear hv
          unfold dateV at C
          go_enter Tryd.func29, Tryd.ntmps29
          go_wp2
          go_region_with (go_at_call 42; refine (C.out _).mono ?_; rintro e w1 ⟨rfl, b1⟩; obtain ⟨⟨r0, r1, r2, r3, r4, r5⟩, B2⟩ := result_kept w w1 b1)
          go_wp2
          exact bodyPost_ret (v := .tuple #[dateV a b c, .int .i64 e]) (by simp [results, Tryd.results29, dateV, go_sem, r0, r1, r2]) rfl ⟨rfl, below_set3 B2 (Nat.le_refl _) _ _ _⟩
      · rw [if_neg k2]
        have q2 := Lib.hid (show ((s[2].toNat : Int) == 46) = false ∨ ((s[2].toNat : Int) == 46) = true ∧ ((s[5].toNat : Int) == 46) = false from not_both k2)
        clear k2
        by_cases k3 : s[2].toNat = 47 ∧ s[5].toNat = 47
        · rw [if_pos k3]
          have t1 : ((s[2].toNat : Int) == 47) = true := by simp; omega
          have t2 : ((s[5].toNat : Int) == 47) = true := by simp; omega
          have t3 : ((s[2].toNat : Int) == 46) = false := by simp; omega
          clear k3
          rcases q1.out with q1 | ⟨q1, q2⟩
          · have e1 := extract_size s 6 10 (by omega)
            have e2 := extract_size s 0 2 (by omega)
            have e3 := extract_size s 3 5 (by omega)
            have C := Lib.hid (fun W => made_any (s.extract 6 10) (s.extract 0 2) (s.extract 3 5) W (by omega) (by omega) (by omega))
            clear e1 e2 e3
            obtain ⟨a, b, c, e, hv⟩ := readV_cases (s.extract 6 10) (s.extract 0 2) (s.extract 3 5)
            rw [hv] at C
            rw [hv]
            clear hv
            unfold dateV at C
            go_enter Tryd.func29, Tryd.ntmps29
            go_wp2
            go_region_with (go_at_call 42; refine (C.out _).mono ?_; rintro e w1 ⟨rfl, b1⟩; obtain ⟨⟨r0, r1, r2, r3, r4, r5⟩, B2⟩ := result_kept w w1 b1)
            go_wp2
            exact bodyPost_ret (v := .tuple #[dateV a b c, .int .i64 e]) (by simp [results, Tryd.results29, dateV, go_sem, r0, r1, r2]) rfl ⟨rfl, below_set3 B2 (Nat.le_refl _) _ _ _⟩
          · have e1 := extract_size s 6 10 (by omega)
            have e2 := extract_size s 0 2 (by omega)
            have e3 := extract_size s 3 5 (by omega)
            have C := Lib.hid (fun W => made_any (s.extract 6 10) (s.extract 0 2) (s.extract 3 5) W (by omega) (by omega) (by omega))
            clear e1 e2 e3
            obtain ⟨a, b, c, e, hv⟩ := readV_cases (s.extract 6 10) (s.extract 0 2) (s.extract 3 5)
            rw [hv] at C
            rw [hv]
            clear hv
            unfold dateV at C
            go_enter Tryd.func29, Tryd.ntmps29
            go_wp2
            go_region_with (go_at_call 42; refine (C.out _).mono ?_; rintro e w1 ⟨rfl, b1⟩; obtain ⟨⟨r0, r1, r2, r3, r4, r5⟩, B2⟩ := result_kept w w1 b1)
            go_wp2
            exact bodyPost_ret (v := .tuple #[dateV a b c, .int .i64 e]) (by simp [results, Tryd.results29, dateV, go_sem, r0, r1, r2]) rfl ⟨rfl, below_set3 B2 (Nat.le_refl _) _ _ _⟩
        · rw [if_neg k3]
          have q3 := Lib.hid (show ((s[2].toNat : Int) == 47) = false ∨ ((s[2].toNat : Int) == 47) = true ∧ ((s[5].toNat : Int) == 47) = false from not_both k3)
          clear k3
          rcases q1.out with q1 | ⟨q1, q1'⟩ <;> rcases q2.out with q2 | ⟨q2, q2'⟩ <;> rcases q3.out with q3 | ⟨q3, q3'⟩
          all_goals
            have hbn := Lib.hid (below_new w (.cells #[.int .i64 0, .int .i64 0, .int .i64 0] 24))
            go_enter Tryd.func29, Tryd.ntmps29
            go_wp2
            refine bodyPost_ret (v := .tuple #[dateV 0 0 0, .int .i64 4]) (by simp [results, Tryd.results29, dateV, go_sem]) rfl ⟨rfl, hbn.out⟩
  · rw [dif_neg h10]
    have hbn := Lib.hid (below_new w (.cells #[.int .i64 0, .int .i64 0, .int .i64 0] 24))
    go_enter Tryd.func29, Tryd.ntmps29
    go_wp2
    refine bodyPost_ret (v := .tuple #[dateV 0 0 0, .int .i64 4]) (by simp [results, Tryd.results29, dateV, go_sem]) rfl ⟨rfl, hbn.out⟩

end Go.Proofs.YtlgnppfompeghaaDoor
