/- Walks of the address package's small functions, and of slices.Grow at no slice. -/
import Derived.Test.YthplnfblpdojkaaDoorAddrNum
import Derived.Lib.AppendZerosOnto
import Derived.Lib.SliceRun
namespace Go.Proofs.YthplnfblpdojkaaDoor
open Go.RowKit
set_option linter.unusedVariables false
set_option maxRecDepth 100000

theorem isDigit_any (c : UInt8) (w : World) :
    Calls Tryd.prog 44 #[.int .u8 c.toNat] w fun e w' => e = .returned (.bool (TM.digit c)) ∧ w = w' := by
  have hb := c.toNat_lt
  unfold TM.digit
  go_enter Tryd.func44, Tryd.ntmps44
  go_wp2
  all_goals go_ret
  all_goals exact ⟨ret_bool (by rw [Bool.eq_iff_iff]; simp; omega), rfl⟩

theorem num_at (s : ByteArray) (h : 0 < s.size) : numB s = TM.digit s[0] := by
  have h0 := drop_at s 0 h
  simp only [List.drop_zero] at h0
  unfold numB
  rw [h0]; rfl
theorem isNumber_any (s : ByteArray) (w : World) :
    Calls Tryd.prog 29 #[.string s] w fun e w' => e = .returned (.bool (numB s)) ∧ w = w' := by
  by_cases h : 0 < s.size
  · have HN := Lib.hid (num_at s h)
    have hne : (!s.toList.isEmpty) = true := by
      rw [Lib.toList_data]
      have h0 := drop_at s 0 h
      simp only [List.drop_zero] at h0
      rw [h0]; rfl
    go_enter Tryd.func29, Tryd.ntmps29
    go_wp2_with (go_at_call 44; refine (isDigit_any s[0] _).mono ?_; rintro e w' ⟨rfl, rfl⟩)
    all_goals go_ret
    all_goals exact ⟨ret_bool HN.out.symm, rfl⟩
  · have h0 := drop_end s 0 (by omega)
    simp only [List.drop_zero] at h0
    have HN := Lib.hid (show numB s = false by unfold numB; rw [h0]; rfl)
    have hne : (!s.toList.isEmpty) = false := by
      rw [Lib.toList_data, h0]; rfl
    clear h0
    go_enter Tryd.func29, Tryd.ntmps29
    go_wp2
    all_goals go_ret
    all_goals exact ⟨ret_bool HN.out.symm, rfl⟩

theorem strInfo0 : (Tryd.prog.info? 9).map (fun i => (i.zero, i.size, i.bytes)) = some (some (.string ⟨#[]⟩), 1, 16) := by kernel_rfl

set_option maxRecDepth 100000 in
set_option maxHeartbeats 2000000 in
/-- slices.Grow at no slice: nothing, or a row of this call's own. -/
theorem Grow_any (n : Nat) (w : World) (hn : n ≤ 100000) :
    Calls Tryd.prog 45 #[.slice none 0 0, .int .i64 n] w fun e w' => ∃ v, e = .returned v ∧ w'.ownsRow w.heap.size 9 1 v 0 [] ∧ Below w.heap.size w w' := by
  have h1 : ¬ ((n : Int) < 0) := by omega
  have h2 : wrap64 ((0 : Int) - (0 : Int)) = 0 := by unfold wrap64; omega
  have h3 : wrap64 ((n : Int) - (0 : Int)) = (n : Int) := by unfold wrap64; omega
  by_cases h0 : n = 0
  · subst h0
    go_enter Tryd.func45, Tryd.ntmps45
    go_wp2
    go_ret
    exact ⟨_, rfl, World.ownsRow_nil _ _ _ _, Below.refl _ _⟩
  · have h4 : (n : Int) > 0 := by omega
    obtain ⟨i0, hi0, hz0, hz1, hz2⟩ := info_parts strInfo0
    have hrz : ∀ ty, (Builtin.append_ #[27, 3] ty #[.slice none 0 0, .int .i64 (n : Int)]).run Tryd.prog w =
        .ok (.slice (some ⟨w.heap.size, 0, none⟩) (0 + n) (grownCap w (0 + n) 0 9)) (w.drew.alloc (.cells ((([] : List Value).toArray) ++ Builtin.zeroCells (Value.string ⟨#[]⟩).cells n ++ Builtin.zeroCells (Value.string ⟨#[]⟩).cells (grownCap w (0 + n) 0 9 - (0 + n))) 9)) := fun ty =>
      Lib.run_append_grow_zeros w 27 3 ty 9 i0 (.string ⟨#[]⟩) .i64 .i64 (by kernel_rfl) (by kernel_rfl) hi0 hz0 none 0 0 [] (run_firstCells_none w.drew i0.size 0 0 0) n (by omega) (by omega) (by omega) (by omega) (by rw [hz2]; omega)
        (growslice_fits (by omega) (by rw [hz2]; omega))
    have hG := grownCap_ge w (0 + n) 0 9
    have hG2 := grownCap_le_maxLen w (0 + n) 0 9 (by unfold maxLen; omega)
    obtain ⟨G, hGe⟩ : ∃ G, G = grownCap w (0 + n) 0 9 := ⟨_, rfl⟩
    rw [← hGe] at hrz hG hG2
    obtain ⟨cs, hcs⟩ : ∃ cs, cs = (([] : List Value).toArray) ++ Builtin.zeroCells (Value.string ⟨#[]⟩).cells n ++ Builtin.zeroCells (Value.string ⟨#[]⟩).cells (G - (0 + n)) := ⟨_, rfl⟩
    rw [← hcs] at hrz
    have hcz : cs.size = G * 1 := by
      rw [hcs]
      have hz1 : (Value.string ⟨#[]⟩ : Value).cells.size = 1 := rfl
      simp only [Array.size_append, List.size_toArray, size_zeroCells, hz1, List.length_nil]
      omega
    have HO := Lib.hid (World.ownsRow_made (e := 9) (base := w.heap.size) w.drew cs G (Nat.le_refl _) hG2 hcz)
    have HB := Lib.hid (show Below w.heap.size w (w.drew.alloc (.cells cs 9)) from ((Below.refl _ w).drew).alloc (Nat.le_refl _) _)
    have HRZ := Lib.hid hrz
    clear hrz hcs hGe hcz
    have hG3 : G ≤ 9223372036854775807 := by unfold maxLen at hG2; omega
    clear hG2
    go_enter Tryd.func45, Tryd.ntmps45
    go_wp2_with (at_builtin; refine Lib.wpList_append_run _ rfl _ _ _ _ rfl _ _ rfl rfl _ _ (HRZ.out _) ?_)
    all_goals go_ret
    all_goals exact ⟨_, rfl, HO.out, HB.out⟩
end Go.Proofs.YthplnfblpdojkaaDoor
