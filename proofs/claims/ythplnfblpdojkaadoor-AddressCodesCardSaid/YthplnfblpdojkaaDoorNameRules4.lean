/- Walk of the reference's Check. -/
import Derived.Test.YthplnfblpdojkaaDoorNameRules3
namespace Go.Proofs.YthplnfblpdojkaaDoor
open Go.RowKit
set_option linter.unusedVariables false
set_option maxRecDepth 100000

theorem quiet_left {P : Program} {f : FuncId} {args : Array Value} {w : World} {n : Nat} {v : Value}
    (h : Calls P f args (w.drewN n) fun e w' => e = .returned v ∧ w.drewN n = w') : Calls P f args (w.drewN n) fun e w'' => e = .returned v ∧ ∃ m, w'' = w.drewN m :=
  h.mono fun _ _ ⟨he, hm⟩ => ⟨he, n, hm.symm⟩

theorem right_tok (r : RL) (k : Nat) (h : k < r.titles.length) (hf : tokB r.titles[k] = false) : rightB r = false := by
  unfold rightB
  rw [areTok_split]
  have : r.titles.all tokB = false := by
    rw [List.all_eq_false]
    exact ⟨r.titles[k], List.getElem_mem h, by rw [hf]; simp⟩
  rw [this]; rfl
theorem right_rest (r : RL) (h : ∀ j, ∀ hj : j < r.titles.length, tokB r.titles[j] = true) : rightB r = (ascB r.titles && (arePairsB r.nicks && (arePairsB r.streets && !makesB r))) := by
  unfold rightB
  rw [areTok_split]
  have : r.titles.all tokB = true := by
    rw [List.all_eq_true]
    intro x hx
    obtain ⟨k, hk, rfl⟩ := List.mem_iff_getElem.1 hx
    exact h k hk
  rw [this]; rfl

end Go.Proofs.YthplnfblpdojkaaDoor
