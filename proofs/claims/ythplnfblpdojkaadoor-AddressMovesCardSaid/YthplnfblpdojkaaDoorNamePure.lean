/- Walks of layer 2's functions that only look: searches, replacements. -/
import Derived.Test.YthplnfblpdojkaaDoorNameMath
namespace Go.Proofs.YthplnfblpdojkaaDoor
open Go.RowKit
set_option linter.unusedVariables false
set_option maxRecDepth 100000

/-- A slice value that reads as a list of pairs; all its cells lie below block B. -/
def IsPairs (B : Nat) (w : World) (v : Value) (ps : List (ByteArray × ByteArray)) : Prop :=
  ∃ (a : Option Addr) (c : Nat), v = .slice a ps.length c ∧ ps.length ≤ c ∧ c ≤ maxLen ∧
    (ps = [] ∨ ∃ b o, a = some ⟨b, o, none⟩ ∧ b < B ∧ ∀ j, ∀ h : j < ps.length, w.cell? ⟨b, o + j * 2, none⟩ = some (.string ps[j].1) ∧ w.cell? ⟨b, o + j * 2 + 1, none⟩ = some (.string ps[j].2))
theorem IsPairs.keep {B : Nat} {w w' : World} {v : Value} {ps : List (ByteArray × ByteArray)} (h : IsPairs B w v ps) (hb : Below B w w') : IsPairs B w' v ps := by
  obtain ⟨a, c, hv, h1, h2, h3⟩ := h
  refine ⟨a, c, hv, h1, h2, ?_⟩
  rcases h3 with h3 | ⟨b, o, ha, hlt, hc⟩
  · exact .inl h3
  · exact .inr ⟨b, o, ha, hlt, fun j hj => ⟨(hb.cell (p := ⟨b, o + j * 2, none⟩) hlt).trans (hc j hj).1, (hb.cell (p := ⟨b, o + j * 2 + 1, none⟩) hlt).trans (hc j hj).2⟩⟩
theorem IsPairs.more {B B' : Nat} {w : World} {v : Value} {ps : List (ByteArray × ByteArray)} (h : IsPairs B w v ps) (hb : B ≤ B') : IsPairs B' w v ps := by
  obtain ⟨a, c, hv, h1, h2, h3⟩ := h
  refine ⟨a, c, hv, h1, h2, ?_⟩
  rcases h3 with h3 | ⟨b, o, ha, hlt, hc⟩
  · exact .inl h3
  · exact .inr ⟨b, o, ha, by omega, hc⟩
theorem IsPairs.at_ {B : Nat} {w : World} {v : Value} {ps : List (ByteArray × ByteArray)} (h : IsPairs B w v ps) (hne : ps ≠ []) : ∃ b o c, v = .slice (some ⟨b, o, none⟩) ps.length c ∧ ps.length ≤ c ∧ c ≤ maxLen ∧ b < B ∧
    ∀ j, ∀ h : j < ps.length, w.cell? ⟨b, o + j * 2, none⟩ = some (.string ps[j].1) ∧ w.cell? ⟨b, o + j * 2 + 1, none⟩ = some (.string ps[j].2) := by
  obtain ⟨a, c, hv, h1, h2, h3⟩ := h
  rcases h3 with h3 | ⟨b, o, ha, hlt, hc⟩
  · exact absurd h3 hne
  · subst ha
    exact ⟨b, o, c, hv, h1, h2, hlt, hc⟩
theorem IsPairs.nil_ {B : Nat} {w : World} {v : Value} (h : IsPairs B w v []) : ∃ a c, v = .slice a 0 c := by
  obtain ⟨a, c, hv, _⟩ := h
  exact ⟨a, c, hv⟩

set_option maxHeartbeats 1000000 in
/-- The library's search. -/
theorem Index_any (B : Nat) (v : Value) (xs : List ByteArray) (x : ByteArray) (w : World) (h : IsTexts B w v xs) :
    Calls Tryd.prog 65 #[v, .string x] w fun e w' => ∃ r : Int, e = .returned (.int .i64 r) ∧ decide (0 ≤ r) = hasB xs x ∧ w = w' := by
  by_cases hne : xs = []
  · subst hne
    obtain ⟨a, c, rfl⟩ := h.nil_
    clear h
    go_enter Tryd.func65, Tryd.ntmps65
    go_wp2
    go_loop [8] (fun i => i = .int .i64 0) (fun _ => 0)
    case atStart => rfl
    case round =>
      obtain rfl := hrel
      go_wp2
      go_ret
      exact ⟨-1, rfl, rfl, rfl⟩
  · obtain ⟨b, o, c, rfl, h1, h2, hlt, hc⟩ := h.at_ hne
    have HC := Lib.hid hc
    clear hc h
    unfold maxLen at h2
    go_enter Tryd.func65, Tryd.ntmps65
    go_wp2
    go_loop [8] (fun i => ∃ (k : Nat), k ≤ xs.length ∧ i = .int .i64 k ∧ hasB (xs.drop k) x = hasB xs x) (fun i => xs.length - (intOf i).toNat)
    case atStart => exact ⟨0, by omega, rfl, rfl⟩
    case round =>
      obtain ⟨k, hk, rfl, hacc⟩ := hrel
      have HA := Lib.hid hacc
      clear hacc
      by_cases hlt : k < xs.length
      · have hc := HC.out k hlt
        have HS := Lib.hid (hasB_drop xs x k hlt)
        go_wp2
        · go_ret
          refine ⟨_, rfl, ?_, rfl⟩
          have h := ‹(x.toList == xs[k].toList) = true›
          rw [← HA.out, HS.out, Bool.beq_comm, h]
          simp
        · refine ⟨⟨k + 1, by omega, by go_num, ?_⟩, by simp [intOf]; omega⟩
          have h := ‹(x.toList == xs[k].toList) = false›
          rw [← HA.out, HS.out, Bool.beq_comm, h]; rfl
      · go_wp2
        go_ret
        refine ⟨_, rfl, ?_, rfl⟩
        rw [← HA.out, List.drop_eq_nil_of_le (by omega)]
        rfl
set_option maxHeartbeats 400000 in
theorem Contains_any (B : Nat) (v : Value) (xs : List ByteArray) (x : ByteArray) (w : World) (h : IsTexts B w v xs) :
    Calls Tryd.prog 51 #[v, .string x] w fun e w' => e = .returned (.bool (hasB xs x)) ∧ w = w' := by
  have HC := Lib.hid (Index_any B v xs x w h)
  clear h
  go_enter Tryd.func51, Tryd.ntmps51
  go_wp2_with fail
  refine HC.out.mono ?_
  rintro e w' ⟨r, rfl, hr, rfl⟩
  have HR := Lib.hid hr
  clear hr
  go_wp2
  go_ret
  exact ⟨ret_bool HR.out, rfl⟩

set_option maxHeartbeats 1000000 in
/-- The reference's replacement. -/
theorem rReplace_any (B : Nat) (v : Value) (ps : List (ByteArray × ByteArray)) (x : ByteArray) (w : World) (h : IsPairs B w v ps) :
    Calls Tryd.prog 19 #[v, .string x] w fun e w' => e = .returned (.string (canonB ps x)) ∧ w = w' := by
  by_cases hne : ps = []
  · subst hne
    obtain ⟨a, c, rfl⟩ := h.nil_
    clear h
    go_enter Tryd.func19, Tryd.ntmps19
    go_wp2
    go_loop [5] (fun i => i = .int .i64 0) (fun _ => 0)
    case atStart => rfl
    case round =>
      obtain rfl := hrel
      go_wp2
      go_ret
      exact ⟨rfl, rfl⟩
  · obtain ⟨b, o, c, rfl, h1, h2, hlt, hc⟩ := h.at_ hne
    have HC := Lib.hid hc
    clear hc h
    unfold maxLen at h2
    go_enter Tryd.func19, Tryd.ntmps19
    go_wp2
    go_loop [5] (fun i => ∃ (k : Nat), k ≤ ps.length ∧ i = .int .i64 k ∧ canonB (ps.drop k) x = canonB ps x) (fun i => ps.length - (intOf i).toNat)
    case atStart => exact ⟨0, by omega, rfl, rfl⟩
    case round =>
      obtain ⟨k, hk, rfl, hacc⟩ := hrel
      have HA := Lib.hid hacc
      clear hacc
      by_cases hlt : k < ps.length
      · obtain ⟨hc, hc'⟩ := HC.out k hlt
        have HS := Lib.hid (canonB_drop ps x k hlt)
        go_wp2
        · go_ret
          refine ⟨ret_str ?_, rfl⟩
          rw [← HA.out, HS.out, if_pos (by assumption)]
        · refine ⟨⟨k + 1, by omega, by go_num, ?_⟩, by simp [intOf]; omega⟩
          rw [← HA.out, HS.out, if_neg (by rw [‹(ps[k].1.toList == x.toList) = false›]; simp)]
      · go_wp2
        go_ret
        refine ⟨ret_str ?_, rfl⟩
        rw [← HA.out, List.drop_eq_nil_of_le (by omega)]
        rfl

/-- What the search of a nickname finds. -/
def Found (ps : List (ByteArray × ByteArray)) (x : ByteArray) (r : Int) : Prop :=
  (∃ k, ∃ h : k < ps.length, r = (k : Int) ∧ canonB ps x = ps[k].2) ∨ (r = -1 ∧ canonB ps x = x)

end Go.Proofs.YthplnfblpdojkaaDoor
