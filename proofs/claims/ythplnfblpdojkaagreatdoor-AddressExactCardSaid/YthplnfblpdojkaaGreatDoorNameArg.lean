/- An argument of type Rules that is read: what the walks are told of it. -/
import Derived.Test.YthplnfblpdojkaaGreatDoorEnvRow
import Derived.Test.YthplnfblpdojkaaGreatDoorNameRules3
import Derived.Deep.SlicePairs
import Derived.Lib.SmallJoins
namespace Go.Proofs.YthplnfblpdojkaaGreatDoor
open Go.ChangeShapes Go.WideShapes Go.RowKit Go.Deep Go.Joins
set_option maxRecDepth 100000
set_option linter.unusedVariables false

theorem texts_of {H : Type} {enc : TypeId × Value → H} {W : World} {v0 : Value} {fuel : Nat} {x : DataW H × List MemPlace} (hf : DataW.trod enc Tryz.prog W 0 (fun _ => true) true fuel 23 [v0] = some x) : ∃ xs, IsTexts W.heap.size W v0 xs := by
  have hf' := hf
  rcases open_strings Tryz.underlying23 Tryz.underlying9 (by kernel_rfl) hf with ⟨hcs, _⟩ | ⟨a, l, cc, ss, hcs, _, hl, hm, hz, hx, hcell, hws⟩
  · obtain rfl : v0 = .slice none 0 0 := by simpa using hcs
    exact ⟨[], none, 0, rfl, Nat.zero_le _, Nat.zero_le _, .inl rfl⟩
  · obtain rfl : v0 = .slice (some a) l cc := by simpa using hcs
    exact texts_arg (enc := enc) (d := x.1) (p := x.2) ⟨fuel, hf'⟩

theorem pairs_of {H : Type} {enc : TypeId × Value → H} {W : World} {v0 : Value} {fuel : Nat} {x : DataW H × List MemPlace} (hf : DataW.trod enc Tryz.prog W 0 (fun _ => true) true fuel 24 [v0] = some x) : ∃ ps, IsPairs W.heap.size W v0 ps := by
  rcases open_slice_pairs Tryz.underlying24 Tryz.underlying46 (by kernel_rfl) rfl rfl (by kernel_rfl) (by kernel_rfl) hf with ⟨hcs, _⟩ | ⟨a, l, cc, m, k, V0, V1, D0, D1, P0, P1, hcs, _, hl, hm, hmm, hx, hel⟩
  · obtain rfl : v0 = .slice none 0 0 := by simpa using hcs
    exact ⟨[], none, 0, rfl, Nat.zero_le _, Nat.zero_le _, .inl rfl⟩
  · obtain rfl : v0 = .slice (some a) l cc := by simpa using hcs
    have hmc : m = cc := by simpa using hmm
    have each : ∀ i, i < m → ∃ q : ByteArray × ByteArray, W.cell? (a.add (i * 2)) = some (.string q.1) ∧ W.cell? (a.add (i * 2 + 1)) = some (.string q.2) := by
      intro i hi
      obtain ⟨h0, h1, g0, g1⟩ := hel i hi
      obtain ⟨z0, e0, _, _⟩ := DataW.trod_string Tryz.underlying9 g0
      obtain ⟨z1, e1, _, _⟩ := DataW.trod_string Tryz.underlying9 g1
      refine ⟨(z0, z1), ?_, ?_⟩
      · rw [h0]
        simpa using e0
      · rw [h1]
        simpa using e1
    obtain ⟨q, hq⟩ := choose_lt each
    refine ⟨(List.range l).map q, some a, cc, by simp, by simpa using hl, hm, ?_⟩
    by_cases h0 : l = 0
    · left; rw [h0]; rfl
    · right
      obtain ⟨b, off, spot⟩ := a
      have hc0 := (hq 0 (by omega)).1
      have hspot : spot = none := by simpa [Addr.add] using World.cell?_spot hc0
      subst hspot
      have hb := World.block_lt_of_cell? W _ hc0
      have hadd0 : ((⟨b, off, none⟩ : Addr).add (0 * 2)).block = b := by simp [Addr.add]
      rw [hadd0] at hb
      refine ⟨b, off, rfl, hb, fun j hj => ?_⟩
      have hj' : j < l := by simpa using hj
      have hc := hq j (by omega)
      have hadd : ∀ k, (⟨b, off, none⟩ : Addr).add k = ⟨b, off + k, none⟩ := by intro k; unfold Addr.add; split <;> simp_all
      rw [hadd, hadd] at hc
      simpa [Nat.add_assoc] using hc

theorem rules_arg {H : Type} {enc : TypeId × Value → H} {W : World} {r : Reach} {b0 : Nat} {v : Value} {d : DataW H} {p : List MemPlace} (hv : Value.okWide Tryz.prog W r b0 26 v) (h : DataW.Trod enc Tryz.prog W 0 (fun _ => true) true 26 v d p) : ∃ raw, IsRules W.heap.size W v raw := by
  obtain ⟨v0, v1, v2, y0, y1, y2, n, rfl, _, _, g0, g1, g2⟩ := open_agg3 Tryz.underlying26 (by kernel_rfl) (by kernel_rfl) hv h
  obtain ⟨xs, hx⟩ := texts_of g0
  obtain ⟨ps, hp⟩ := pairs_of g1
  obtain ⟨ss, hs⟩ := pairs_of g2
  exact ⟨⟨xs, ps, ss⟩, v0, v1, v2, rfl, hx, hp, hs⟩
end Go.Proofs.YthplnfblpdojkaaGreatDoor
