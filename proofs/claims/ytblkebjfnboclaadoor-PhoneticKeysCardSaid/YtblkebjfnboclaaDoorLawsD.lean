/- Short texts. -/
import Derived.Test.YtblkebjfnboclaaDoorLawsA
namespace Go.Proofs.YtblkebjfnboclaaDoor
open Go.RowKit

def shortB (xs : List ByteArray) : Bool := xs.all fun x => decide (x.size ≤ 200)

set_option maxHeartbeats 1000000 in
theorem Short_any (B : Nat) (v : Value) (xs : List ByteArray) (w : World) (h : IsTexts B w v xs) :
    Calls Tryd.prog 10 #[v] w fun e w' => e = .returned (.bool (shortB xs)) ∧ w = w' := by
  by_cases hne : xs = []
  · subst hne
    obtain ⟨a, c, rfl⟩ := h.nil_
    clear h
    go_enter Tryd.func10, Tryd.ntmps10
    go_wp2
    go_loop [3] (fun i => i = .int .i64 0) (fun _ => 0)
    case atStart => rfl
    case round =>
      obtain rfl := hrel
      go_wp2
      go_ret
      exact ⟨rfl, rfl⟩
  · obtain ⟨b, o, c, rfl, h1, h2, hlt, hc⟩ := h.at_ hne
    have HC := Lib.hid hc
    clear hc h
    unfold maxLen at h2
    go_enter Tryd.func10, Tryd.ntmps10
    go_wp2
    go_loop [3] (fun i => ∃ (k : Nat), k ≤ xs.length ∧ i = .int .i64 k ∧ shortB (xs.drop k) = shortB xs) (fun i => xs.length - (intOf i).toNat)
    case atStart => exact ⟨0, by omega, rfl, rfl⟩
    case round =>
      obtain ⟨k, hk, rfl, hacc⟩ := hrel
      have HA := Lib.hid hacc
      clear hacc
      by_cases hlt : k < xs.length
      · have hc := HC.out k hlt
        have HS := Lib.hid (show shortB (xs.drop k) = (decide (xs[k].size ≤ 200) && shortB (xs.drop (k + 1))) by
          rw [List.drop_eq_getElem_cons hlt]; rfl)
        by_cases hz : xs[k].size ≤ 200
        · have hzi : ¬ (200 : Int) < (xs[k].size : Int) := by omega
          go_wp2
          refine ⟨⟨k + 1, by omega, by go_num, ?_⟩, by simp [intOf]; omega⟩
          rw [← HA.out, HS.out]
          simp [hz]
        · have hzi : (200 : Int) < (xs[k].size : Int) := by omega
          go_wp2
          go_ret
          refine ⟨ret_bool ?_, rfl⟩
          rw [← HA.out, HS.out]
          simp [hz]
      · go_wp2
        go_ret
        refine ⟨ret_bool ?_, rfl⟩
        rw [← HA.out, List.drop_eq_nil_of_le (by omega)]
        rfl

theorem short_one (raw : ByteArray) : shortB [raw] = decide (raw.size ≤ 200) := by simp [shortB]

end Go.Proofs.YtblkebjfnboclaaDoor
