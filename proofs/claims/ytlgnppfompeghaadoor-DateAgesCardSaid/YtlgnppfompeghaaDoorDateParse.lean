/- Walks of Parse, Read and the reference's. -/
import Derived.Test.YtlgnppfompeghaaDoorDateNum
import Derived.Deep.RegionWith
import Derived.BigRegion
namespace Go.Proofs.YtlgnppfompeghaaDoor
open Go.RowKit
set_option linter.unusedVariables false

theorem extract_size (s : ByteArray) (a b : Nat) (h : b ≤ s.size) : (s.extract a b).size = b - a := by
  have := congrArg List.length (Lib.extract_data s a b)
  simp at this
  have e : (s.extract a b).size = min b s.size - a := by simp
  rw [e]
  omega
/-- What Read returns. -/
def rdV (s : ByteArray) : Value := if s.size = 8 then readV (s.extract 0 4) (s.extract 4 6) (s.extract 6 8) else .tuple #[dateV 0 0 0, .int .i64 4]

theorem readV_cases (y m d : ByteArray) : ∃ a b c e : Int, readV y m d = .tuple #[dateV a b c, .int .i64 e] := by
  rw [readV_getD]
  split
  · exact ⟨_, _, _, _, rfl⟩
  · exact ⟨_, _, _, _, rfl⟩

/-- What a world behind a call holds of the result's new block. -/
theorem result_kept (w w' : World) (h : Below (w.alloc (.cells #[.int .i64 0, .int .i64 0, .int .i64 0] 24)).drew.heap.size (w.alloc (.cells #[.int .i64 0, .int .i64 0, .int .i64 0] 24)).drew w') :
    (w'.cell? ⟨w.heap.size, 0, none⟩ = some (.int .i64 0) ∧ w'.cell? ⟨w.heap.size, 1, none⟩ = some (.int .i64 0) ∧ w'.cell? ⟨w.heap.size, 2, none⟩ = some (.int .i64 0) ∧ w'.frozen? ⟨w.heap.size, 0, none⟩ = false ∧ w'.frozen? ⟨w.heap.size, 1, none⟩ = false ∧ w'.frozen? ⟨w.heap.size, 2, none⟩ = false) ∧ Below w.heap.size w w' := by
  have hd : DateAt w.heap.size (w.alloc (.cells #[.int .i64 0, .int .i64 0, .int .i64 0] 24)).drew 0 0 0 := dateAt_new w 0 0 0 rfl
  exact ⟨(hd.below h (Nat.le_refl _)).parts, below_then (w1 := (w.alloc (.cells #[.int .i64 0, .int .i64 0, .int .i64 0] 24)).drew) (below_drewN (below_new w _) 1) h⟩

set_option maxHeartbeats 2000000 in
theorem Read_any (s : ByteArray) (w : World) (hE : DEnv w) (hm : s.size ≤ maxLen) :
    Calls Tryd.prog 30 #[.string s] w fun e w' => e = .returned (rdV s) ∧ Below w.heap.size w w' := by
  unfold maxLen at hm
  have HE := Lib.hid hE
  clear hE
  unfold rdV
  by_cases h8 : s.size = 8
  · rw [if_pos h8]
    have e1 := extract_size s 0 4 (by omega)
    have e2 := extract_size s 4 6 (by omega)
    have e3 := extract_size s 6 8 (by omega)
    have C := Lib.hid (fun W hW => read_any (s.extract 0 4) (s.extract 4 6) (s.extract 6 8) W hW (by omega) (by omega) (by omega))
    clear e1 e2 e3
    obtain ⟨a, b, c, e, hv⟩ := readV_cases (s.extract 0 4) (s.extract 4 6) (s.extract 6 8)
    rw [hv] at C
    rw [hv]
    clear hv
    unfold dateV at C
    have hE1 := Lib.hid (show DEnv (w.alloc (.cells #[.int .i64 0, .int .i64 0, .int .i64 0] 24)).drew from HE.out.below (below_drewN (below_new w _) 1))
    go_enter Tryd.func30, Tryd.ntmps30
    go_wp2
    go_region_with (go_at_call 41; refine (C.out _ hE1.out).mono ?_; rintro e w1 ⟨rfl, b1⟩; obtain ⟨⟨r0, r1, r2, r3, r4, r5⟩, B2⟩ := result_kept w w1 b1)
    go_wp2
    exact bodyPost_ret (v := .tuple #[dateV a b c, .int .i64 e]) (by simp [results, Tryd.results30, dateV, go_sem, r0, r1, r2]) rfl ⟨rfl, below_set3 B2 (Nat.le_refl _) _ _ _⟩
  · rw [if_neg h8]
    have hbn := Lib.hid (below_new w (.cells #[.int .i64 0, .int .i64 0, .int .i64 0] 24))
    go_enter Tryd.func30, Tryd.ntmps30
    go_wp2
    refine bodyPost_ret (v := .tuple #[dateV 0 0 0, .int .i64 4]) (by simp [results, Tryd.results30, dateV, go_sem]) rfl ⟨rfl, hbn.out⟩

set_option maxHeartbeats 2000000 in
theorem rRead_any (s : ByteArray) (w : World) (hm : s.size ≤ maxLen) :
    Calls Tryd.prog 31 #[.string s] w fun e w' => e = .returned (rdV s) ∧ Below w.heap.size w w' := by
  unfold maxLen at hm
  unfold rdV
  by_cases h8 : s.size = 8
  · rw [if_pos h8]
    have e1 := extract_size s 0 4 (by omega)
    have e2 := extract_size s 4 6 (by omega)
    have e3 := extract_size s 6 8 (by omega)
    have C := Lib.hid (fun W => made_any (s.extract 0 4) (s.extract 4 6) (s.extract 6 8) W (by omega) (by omega) (by omega))
    clear e1 e2 e3
    obtain ⟨a, b, c, e, hv⟩ := readV_cases (s.extract 0 4) (s.extract 4 6) (s.extract 6 8)
    rw [hv] at C
    rw [hv]
    clear hv
    unfold dateV at C
    go_enter Tryd.func31, Tryd.ntmps31
    go_wp2
    go_region_with (go_at_call 42; refine (C.out _).mono ?_; rintro e w1 ⟨rfl, b1⟩; obtain ⟨⟨r0, r1, r2, r3, r4, r5⟩, B2⟩ := result_kept w w1 b1)
    go_wp2
    exact bodyPost_ret (v := .tuple #[dateV a b c, .int .i64 e]) (by simp [results, Tryd.results31, dateV, go_sem, r0, r1, r2]) rfl ⟨rfl, below_set3 B2 (Nat.le_refl _) _ _ _⟩
  · rw [if_neg h8]
    have hbn := Lib.hid (below_new w (.cells #[.int .i64 0, .int .i64 0, .int .i64 0] 24))
    go_enter Tryd.func31, Tryd.ntmps31
    go_wp2
    refine bodyPost_ret (v := .tuple #[dateV 0 0 0, .int .i64 4]) (by simp [results, Tryd.results31, dateV, go_sem]) rfl ⟨rfl, hbn.out⟩

end Go.Proofs.YtlgnppfompeghaaDoor
