/- AddressIdempotent. -/
import Derived.Test.YthplnfblpdojkaaGreatDoorAddrLaw1
import Derived.Test.YthplnfblpdojkaaGreatDoorDeckBent
namespace Go.Proofs.YthplnfblpdojkaaGreatDoor
open Go.RowKit
set_option linter.unusedVariables false
set_option maxRecDepth 100000

theorem adr_small (r : RL) (s : ByteArray) {x : ByteArray} {c : Int} (h : adrVal r s = (x, c)) : x.size ≤ 64 := by
  rcases adr_cases r s with ⟨c', -, he⟩ | ⟨he, -, -, -, -, hz⟩
  · rw [h] at he
    obtain ⟨rfl, -⟩ := Prod.mk.inj he
    decide
  · rw [h] at he
    obtain ⟨rfl, -⟩ := Prod.mk.inj he
    exact hz
theorem code_small (s : ByteArray) {x : ByteArray} {c : Int} (h : codeVal s = (x, c)) : x.size ≤ 64 := by
  rcases code_cases s with ⟨c', -, he⟩ | ⟨he, -, hz⟩
  · rw [h] at he
    obtain ⟨rfl, -⟩ := Prod.mk.inj he
    decide
  · rw [h] at he
    obtain ⟨rfl, -⟩ := Prod.mk.inj he
    omega
theorem adr_idem (r : RL) (s : ByteArray) {x : ByteArray} {c : Int} (h : adrVal r s = (x, c)) : (c != 0) = true ∨ (c = 0 ∧ adrVal r x = (x, 0) ∧ adrB r x = true) := by
  rcases adr_cases r s with ⟨c', hc, he⟩ | ⟨he, h1, h2, h3, h4, h5⟩
  · rw [h] at he
    obtain ⟨-, rfl⟩ := Prod.mk.inj he
    exact .inl (by simp [hc])
  · rw [h] at he
    obtain ⟨rfl, rfl⟩ := Prod.mk.inj he
    have := adr_again h2 h3 h4 h5 h1
    exact .inr ⟨rfl, this, by unfold adrB; rw [this]; simp⟩
theorem code_idem (s : ByteArray) {x : ByteArray} {c : Int} (h : codeVal s = (x, c)) : (c != 0) = true ∨ (c = 0 ∧ codeVal x = (x, 0) ∧ codeB x = true) := by
  rcases code_cases s with ⟨c', hc, he⟩ | ⟨he, h1, h2⟩
  · rw [h] at he
    obtain ⟨-, rfl⟩ := Prod.mk.inj he
    exact .inl (by simp [hc])
  · rw [h] at he
    obtain ⟨rfl, rfl⟩ := Prod.mk.inj he
    have := code_again h1 h2
    exact .inr ⟨rfl, this, by unfold codeB; rw [this]; simp⟩

end Go.Proofs.YthplnfblpdojkaaGreatDoor
