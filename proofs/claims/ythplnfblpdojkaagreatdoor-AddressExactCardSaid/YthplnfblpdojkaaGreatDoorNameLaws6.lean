/- The walk of NameExact. -/
import Derived.Test.YthplnfblpdojkaaGreatDoorNameLaws5
namespace Go.Proofs.YthplnfblpdojkaaGreatDoor
open Go.RowKit
set_option linter.unusedVariables false
set_option maxRecDepth 100000

def shortB (xs : List ByteArray) : Bool := xs.all fun x => decide (x.size ≤ 200)

set_option maxHeartbeats 1000000 in
theorem Short_any (B : Nat) (v : Value) (xs : List ByteArray) (w : World) (h : IsTexts B w v xs) :
    Calls Tryz.prog 6 #[v] w fun e w' => e = .returned (.bool (shortB xs)) ∧ w = w' := by
  by_cases hne : xs = []
  · subst hne
    obtain ⟨a, c, rfl⟩ := h.nil_
    clear h
    go_enter Tryz.func6, Tryz.ntmps6
    go_wp2
    go_loop [3] (fun i => i = .int .i64 0) (fun _ => 0)
    case atStart => rfl
    case round =>
      obtain rfl := hrel
      go_wp2
      go_ret
      exact ⟨rfl, rfl⟩
  · obtain ⟨b, o, c, rfl, h1, h2, hlt, hc⟩ := h.at_ hne
    have HC := Lib.hid hc
    clear hc h
    unfold maxLen at h2
    go_enter Tryz.func6, Tryz.ntmps6
    go_wp2
    go_loop [3] (fun i => ∃ (k : Nat), k ≤ xs.length ∧ i = .int .i64 k ∧ shortB (xs.drop k) = shortB xs) (fun i => xs.length - (intOf i).toNat)
    case atStart => exact ⟨0, by omega, rfl, rfl⟩
    case round =>
      obtain ⟨k, hk, rfl, hacc⟩ := hrel
      have HA := Lib.hid hacc
      clear hacc
      by_cases hlt : k < xs.length
      · have hc := HC.out k hlt
        have HS := Lib.hid (show shortB (xs.drop k) = (decide (xs[k].size ≤ 200) && shortB (xs.drop (k + 1))) by
          rw [List.drop_eq_getElem_cons hlt]; rfl)
        by_cases hz : xs[k].size ≤ 200
        · have hzi : ¬ (200 : Int) < (xs[k].size : Int) := by omega
          go_wp2
          refine ⟨⟨k + 1, by omega, by go_num, ?_⟩, by simp [intOf]; omega⟩
          rw [← HA.out, HS.out]
          simp [hz]
        · have hzi : (200 : Int) < (xs[k].size : Int) := by omega
          go_wp2
          go_ret
          refine ⟨ret_bool ?_, rfl⟩
          rw [← HA.out, HS.out]
          simp [hz]
      · go_wp2
        go_ret
        refine ⟨ret_bool ?_, rfl⟩
        rw [← HA.out, List.drop_eq_nil_of_le (by omega)]
        rfl

/-- What is known of rules in a box, in a world behind w. -/
structure StR (w : World) (B p : Nat) (tv nv sv : Value) (r : RL) (V : World) : Prop where
  env : Env V
  rules : IsRules B V (.agg #[tv, nv, sv]) r
  box : Box V p tv nv sv
  le : B ≤ V.heap.size
  lt : p < V.heap.size
  under : Below w.heap.size w V
theorem StR.below {w : World} {B p : Nat} {tv nv sv : Value} {r : RL} {V V' : World} (h : StR w B p tv nv sv r V) (hb : Below V.heap.size V V') : StR w B p tv nv sv r V' :=
  ⟨h.env.below hb h.env.size, h.rules.keep (hb.mono h.le), h.box.below hb h.lt, Nat.le_trans h.le hb.size, Nat.lt_of_lt_of_le h.lt hb.size, h.under.trans (hb.mono h.under.size)⟩
theorem StR.grown {w : World} {B p g : Nat} {tv nv sv : Value} {r : RL} {V V' : World} (h : StR w B p tv nv sv r V) (hd : Deck g V) (hg : V.grownBy V' (some g)) (hpg : p ≠ g) (hgw : w.heap.size ≤ g) (h4 : 4 ≤ w.heap.size) : StR w B p tv nv sv r V' :=
  ⟨h.env.below (below_of_grown (B := 4) hg (by omega) h.env.size) (Nat.le_refl _), h.rules.grown hd hg h.le, h.box.grown hg h.lt hpg, Nat.le_trans h.le hg.size, Nat.lt_of_lt_of_le h.lt hg.size, h.under.trans (below_of_grown hg hgw h.under.size)⟩
theorem StR.drew {w : World} {B p : Nat} {tv nv sv : Value} {r : RL} {V : World} (h : StR w B p tv nv sv r V) : StR w B p tv nv sv r V.drew :=
  h.below (below_drew (Below.refl _ _))
theorem norm_small (r : RL) (s : ByteArray) {x : ByteArray} {c : Int} (h : normVal r s = (x, c)) : x.size ≤ 64 := by
  rcases norm_cases r s with ⟨c', hc', he⟩ | ⟨he, -, -, -, -, hz⟩
  · rw [h] at he
    obtain ⟨rfl, rfl⟩ := Prod.mk.inj he
    decide
  · rw [h] at he
    obtain ⟨rfl, rfl⟩ := Prod.mk.inj he
    exact hz

end Go.Proofs.YthplnfblpdojkaaGreatDoor
