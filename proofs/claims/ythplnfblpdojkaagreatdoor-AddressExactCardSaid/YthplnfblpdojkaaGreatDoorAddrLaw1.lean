/- AddressZeros. -/
import Derived.Test.YthplnfblpdojkaaGreatDoorAddrAwake
namespace Go.Proofs.YthplnfblpdojkaaGreatDoor
open Go.RowKit
set_option linter.unusedVariables false
set_option maxRecDepth 100000

theorem none_rules (B : Nat) (w : World) : IsRules B w (.agg #[.slice none 0 0, .slice none 0 0, .slice none 0 0]) rNone := ⟨_, _, _, rfl, texts_nil _ _, pairs_nil _ _, pairs_nil _ _⟩
theorem zer_size : ∀ n ∈ zerL, n.size ≤ 2 := fun n hn => (zer_all n hn).2.2.2

end Go.Proofs.YthplnfblpdojkaaGreatDoor
