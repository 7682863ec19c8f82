/- Walks of layer 2's checks of rules. -/
import Derived.Test.YthplnfblpdojkaaDoorNamePure
namespace Go.Proofs.YthplnfblpdojkaaDoor
open Go.RowKit
set_option linter.unusedVariables false
set_option maxRecDepth 100000

theorem filter_beq (s : ByteArray) : (s.data.toList.filter TM.lower == s.toList) = s.data.toList.all TM.lower := by
  rw [Bool.eq_iff_iff, Lib.toList_data, beq_iff_eq, List.all_eq_true]
  exact List.filter_eq_self
theorem tok_filter (s : ByteArray) (h : ¬ s.toList = []) (hz : s.size ≤ 64) : tokB s = (!s.toList.isEmpty && s.data.toList.filter TM.lower == s.toList) := by
  rw [filter_beq]
  unfold tokB
  rw [decide_eq_true hz]; simp
theorem tok_full (s : ByteArray) (h : s.toList.isEmpty = false) (hz : s.size ≤ 64) : tokB s = s.data.toList.all TM.lower := by
  unfold tokB
  rw [h, decide_eq_true hz]; simp
theorem tok_empty (s : ByteArray) (h : s.toList.isEmpty = true) : tokB s = false := by
  unfold tokB
  rw [h]; simp
theorem tok_long (s : ByteArray) (h : ¬ s.size ≤ 64) : tokB s = false := by
  unfold tokB
  rw [decide_eq_false h]; simp

set_option maxHeartbeats 400000 in
theorem isToken_any (s : ByteArray) (w : World) :
    Calls Tryd.prog 50 #[.string s] w fun e w' => e = .returned (.bool (tokB s)) ∧ Below w.heap.size w w' := by
  by_cases h64 : s.size ≤ 64
  · have hz : (s.size : Int) ≤ 64 := by omega
    go_enter Tryd.func50, Tryd.ntmps50
    go_wp2_with (go_at_call 64; refine (Letters_any s _ (by omega)).mono ?_; rintro e w1 ⟨rfl, b1⟩)
    all_goals go_ret
    · exact ⟨ret_bool (tok_empty s (by simp [‹s.toList = []›])).symm, Below.refl _ _⟩
    · exact ⟨ret_bool (tok_filter s (by assumption) h64).symm, b1⟩
  · have HL := Lib.hid (tok_long s h64)
    have hz : ¬ (s.size : Int) ≤ 64 := by omega
    go_enter Tryd.func50, Tryd.ntmps50
    go_wp2
    all_goals go_ret
    all_goals exact ⟨ret_bool HL.out.symm, Below.refl _ _⟩

set_option maxHeartbeats 1000000 in
theorem areTokens_any (B : Nat) (v : Value) (xs : List ByteArray) (w : World) (h : IsTexts B w v xs) (hB : B ≤ w.heap.size) :
    Calls Tryd.prog 38 #[v] w fun e w' => e = .returned (.bool (areTokB xs)) ∧ Below w.heap.size w w' := by
  by_cases hne : xs = []
  · subst hne
    obtain ⟨a, c, rfl⟩ := h.nil_
    clear h
    go_enter Tryd.func38, Tryd.ntmps38
    go_wp2
    go_loop [7] (fun i => i = .int .i64 0) (fun _ => 0)
    case atStart => rfl
    case round =>
      obtain rfl := hrel
      go_wp2
      go_ret
      exact ⟨ret_bool (by rfl), Below.refl _ _⟩
  · obtain ⟨b, o, c, rfl, h1, h2, hlt, hc⟩ := h.at_ hne
    have hb0 : b < w.heap.size := by omega
    have HC := Lib.hid hc
    clear hc h
    unfold maxLen at h2
    go_enter Tryd.func38, Tryd.ntmps38
    go_wp2
    go_loopw [7] (fun i wr => ∃ (k : Nat), k ≤ xs.length ∧ i = .int .i64 k ∧ (∀ j, j < k → (tokAt xs j && orderAt xs j) = true) ∧ Below w.heap.size w wr) (fun i _ => xs.length - (intOf i).toNat)
    case atStart => exact ⟨0, by omega, rfl, fun j hj => absurd hj (Nat.not_lt_zero _), Below.refl _ _⟩
    case round =>
      obtain ⟨k, hk, rfl, hacc, hbw⟩ := hrel
      have HA := Lib.hid hacc
      clear hacc
      by_cases hlt : k < xs.length
      · have hc := (hbw.cell (p := ⟨b, o + k, none⟩) hb0).trans (HC.out k hlt)
        have HT := Lib.hid (tokAt_is xs k hlt)
        by_cases h0 : 0 < k
        · obtain ⟨k0, rfl⟩ : ∃ k0, k = k0 + 1 := ⟨k - 1, by omega⟩
          have hp := HC.out k0 (by omega)
          have HO := Lib.hid (orderAt_is xs (k0 + 1) (by omega) hlt)
          have HPc := Lib.hid hp
          clear hp
          go_wp2_with fail
          refine (isToken_any _ wr).mono ?_
          rintro e w1 ⟨rfl, b1⟩
          have b1' := hbw.trans (b1.mono hbw.size)
          have hp := (b1'.cell (p := ⟨b, o + k0, none⟩) hb0).trans HPc.out
          go_wp2
          · go_ret
            refine ⟨ret_bool (areTok_not xs (k0 + 1) hlt ?_).symm, b1'⟩
            have h := ‹(!Op.bytesLess xs[k0].toList xs[k0 + 1].toList) = true›
            rw [HO.out]
            unfold geS
            simp only [Nat.add_sub_cancel, h]
            simp
          · refine ⟨⟨k0 + 1 + 1, by omega, by go_num, fun j hj => ?_, b1'⟩, by simp [intOf]; omega⟩
            by_cases hj' : j < k0 + 1
            · exact HA.out j hj'
            · obtain rfl : j = k0 + 1 := by omega
              have h := ‹(!Op.bytesLess xs[k0].toList xs[k0 + 1].toList) = false›
              rw [HO.out, HT.out, ‹tokB xs[k0 + 1] = true›]
              unfold geS
              simp only [Nat.add_sub_cancel, h]
              simp
          · go_ret
            refine ⟨ret_bool (areTok_not xs (k0 + 1) hlt ?_).symm, b1'⟩
            rw [HT.out, (show tokB xs[k0 + 1] = false by simpa using ‹¬ tokB xs[k0 + 1] = true›)]; rfl
        · have h0i : ¬ 0 < (k : Int) := by omega
          go_wp2_with fail
          refine (isToken_any _ wr).mono ?_
          rintro e w1 ⟨rfl, b1⟩
          have b1' := hbw.trans (b1.mono hbw.size)
          go_wp2
          · refine ⟨⟨k + 1, by omega, by go_num, fun j hj => ?_, b1'⟩, by simp [intOf]; omega⟩
            obtain rfl : j = k := by omega
            obtain rfl : j = 0 := by omega
            rw [HT.out, ‹tokB xs[0] = true›]; rfl
          · go_ret
            refine ⟨ret_bool (areTok_not xs k hlt ?_).symm, b1'⟩
            rw [HT.out, (show tokB xs[k] = false by simpa using ‹¬ tokB xs[k] = true›)]; rfl
      · go_wp2
        go_ret
        exact ⟨ret_bool (areTok_yes xs (fun j hj => HA.out j (by omega))).symm, hbw⟩
end Go.Proofs.YthplnfblpdojkaaDoor
