/- What a row of layer 9 gives the walks (no variable is listed): arguments that are lists of numbers, and arrays of bits. -/
import Derived.Test.YtfcnodiepdnegaaRows
import Derived.Test.YtfcnodiepdnegaaBitLaw1
import Derived.ProofKit
import Derived.OpenShut
import Derived.LaidMore
import Derived.Lay
import Derived.Stop.Joined
import Derived.Deep.DeepHandedRow
import Derived.SliceStrings
import Derived.Lib.SmallJoins
namespace Go.Proofs.Ytfcnodiepdnegaa
open Go.ChangeShapes Go.WideShapes Go.ChangeAt Go.RowKit Go.Joins
set_option linter.unusedVariables false

theorem sOwn : ownKnob Try.prog.godebug = none := by kernel_rfl
theorem sLaidOut : laidOutB Try.prog = true := by kernel_rfl
/-- What every row of this seat lists: nothing. -/
def laidS : List (String × DataW Unit) := []
theorem laid_metS (os : Os) (args : Array Value) : laidMetH Try.prog laidS ((World.laidAll Try.prog os laidS).forCall (fun _ _ => 0) ⟨#[], args, []⟩).memory := by
  rw [MakeChecks.laidMetH_plain _ _ _ (by kernel_rfl)]
  exact laidMet_laidAll _ (by kernel_rfl) (by kernel_rfl)
/-- A slice of ints that is read: what the walks are told of it. -/
theorem sInts_arg {H : Type} {enc : TypeId × Value → H} {W : World} {a : Option Addr} {n c : Nat} {d : DataW H} {p : List MemPlace} (h : DataW.Trod enc Try.prog W 0 (fun _ => true) true 22 (.slice a n c) d p) : IntsArg W a n c := by
  have lt0 : ∀ x ∈ p, x.block < W.heap.size := by obtain ⟨m, hm⟩ := h; exact DataW.trod_lt m _ _ _ hm
  obtain ⟨fuel, hf⟩ := h
  rcases open_ints Try.underlying22 Try.underlying3 (by kernel_rfl) hf with ⟨hcs, _⟩ | ⟨x, l, cc, zs, hcs, _, hl, hm, hz, hx, hcell, hwz⟩
  · simp [Value.cells] at hcs
    obtain ⟨rfl, rfl, rfl⟩ := hcs
    exact ⟨Nat.zero_le _, Nat.zero_le _, fun j hj => absurd hj (Nat.not_lt_zero _)⟩
  · simp [Value.cells] at hcs
    obtain ⟨rfl, rfl, rfl⟩ := hcs
    refine ⟨hl, hm, fun j hj => ?_⟩
    have hzl : zs.length = c := by simpa using hz
    have hc := hcell j (by omega)
    obtain ⟨b, off, spot⟩ := x
    have hc0 := hcell 0 (by omega)
    have hspot : spot = none := by simpa [Addr.add] using World.cell?_spot hc0
    subst hspot
    have hb := World.block_lt_of_cell? W _ hc0
    have hw := bounds_i64 (hwz (zs.getD j 0) (by rw [List.getD_eq_getElem?_getD, List.getElem?_eq_getElem (by omega)]; simp))
    have hadd : (⟨b, off, none⟩ : Addr).add j = ⟨b, off + j, none⟩ := by unfold Addr.add; split <;> simp_all
    have hadd0 : ((⟨b, off, none⟩ : Addr).add 0).block = b := by simp [Addr.add]
    rw [hadd] at hc
    rw [hadd0] at hb
    exact ⟨b, off, _, rfl, hb, hc, hw⟩
theorem num_of {n : Int} (h : 0 ≤ n ∧ n ≤ 18446744073709551615) : n = n64 (UInt64.ofNat n.toNat) := by
  unfold n64
  rw [UInt64.toNat_ofNat']
  omega
/-- A slice of words that is read. -/
theorem words_of {H : Type} {enc : TypeId × Value → H} {W : World} {v0 : Value} {fuel : Nat} {x : DataW H × List MemPlace} (hf : DataW.trod enc Try.prog W 0 (fun _ => true) true fuel 23 [v0] = some x) : ∃ l, IsWs W.heap.size W v0 l := by
  rcases open_ints Try.underlying23 Try.underlying51 (by kernel_rfl) hf with ⟨hcs, _⟩ | ⟨a, n, c, zs, hcs, _, hl, hm, hz, hx, hcell, hwz⟩
  · obtain rfl : v0 = .slice none 0 0 := by simpa using hcs
    exact ⟨[], none, 0, rfl, Nat.zero_le _, Nat.zero_le _, .inl rfl⟩
  · obtain rfl : v0 = .slice (some a) n c := by simpa using hcs
    have hzl : zs.length = c := by simpa using hz
    have hlen : ((zs.take n).map fun z => UInt64.ofNat z.toNat).length = n := by rw [List.length_map, List.length_take]; omega
    refine ⟨(zs.take n).map fun z => UInt64.ofNat z.toNat, some a, c, by rw [hlen], by rw [hlen]; exact hl, hm, ?_⟩
    by_cases h0 : n = 0
    · left; rw [h0]; rfl
    · right
      obtain ⟨b, off, spot⟩ := a
      have hc0 := hcell 0 (by omega)
      have hspot : spot = none := by simpa [Addr.add] using World.cell?_spot hc0
      subst hspot
      have hb := World.block_lt_of_cell? W _ hc0
      have hadd0 : ((⟨b, off, none⟩ : Addr).add 0).block = b := by simp [Addr.add]
      rw [hadd0] at hb
      refine ⟨b, off, rfl, hb, fun j y hy => ?_⟩
      have hj : j < n := by
        have := (List.getElem?_eq_some_iff.1 hy).1
        omega
      have hc := hcell j (by omega)
      have hadd : (⟨b, off, none⟩ : Addr).add j = ⟨b, off + j, none⟩ := by unfold Addr.add; split <;> simp_all
      rw [hadd] at hc
      rw [hc]
      rw [List.getElem?_map, List.getElem?_take_of_lt hj, List.getElem?_eq_getElem (show j < zs.length by omega)] at hy
      obtain rfl := Option.some.inj hy
      have hw := num_of (bounds_u64 (hwz zs[j] (List.getElem_mem _)))
      rw [List.getD_eq_getElem?_getD, List.getElem?_eq_getElem (show j < zs.length by omega)]
      exact congrArg (fun z => some (Value.int .u64 z)) hw
/-- An array of bits that is read. -/
theorem bits_arg {H : Type} {enc : TypeId × Value → H} {W : World} {r : Reach} {b0 : Nat} {v : Value} {d : DataW H} {p : List MemPlace} (hv : Value.okWide Try.prog W r b0 25 v) (h : DataW.Trod enc Try.prog W 0 (fun _ => true) true 25 v d p) : ∃ L l, IsBits W.heap.size W v L l := by
  obtain ⟨v0, v1, y0, y1, n, rfl, _, _, g0, g1⟩ := open_agg2 Try.underlying25 (by kernel_rfl) (by kernel_rfl) hv h
  obtain ⟨a, e0, _, w0⟩ := DataW.trod_int Try.underlying3 g0
  injection e0 with e0 _
  obtain ⟨l, hl⟩ := words_of g1
  have hw := bounds_i64 w0
  exact ⟨a, l, v1, by rw [e0], hl, hw.1, hw.2⟩
end Go.Proofs.Ytfcnodiepdnegaa
