/- What a row's list and the world's shape give the walks: 'Env'. -/
import Derived.Test.YthplnfblpdojkaaGreatDoorRows
import Derived.Test.YthplnfblpdojkaaGreatDoorAwake
import Derived.ProofKit
import Derived.OpenShut
import Derived.LaidMore
import Derived.Lay
import Derived.Stop.Joined
import Derived.Deep.DeepHandedRow
import Derived.Shelf.Vars
import Derived.SliceStrings
namespace Go.Proofs.YthplnfblpdojkaaGreatDoor
open Go.ChangeShapes Go.WideShapes Go.ChangeAt Go.RowKit

theorem own : ownKnob Tryz.prog.godebug = none := by kernel_rfl
theorem laidOut : laidOutB Tryz.prog = true := by kernel_rfl

/-- What every row of this seat lists. -/
def laid3 : List (String × DataW Unit) := [("unicode/utf8.acceptRanges", Rows.laid_unicode_utf8_acceptRanges), ("recordlink/text.replacements", Rows.laid_recordlink_text_replacements), ("unicode/utf8.first", Rows.laid_unicode_utf8_first)]
def replL : List (List UInt8) := (List.range 64).map fun i => TM.repl (UInt8.ofNat (128 + i))
theorem replL_data : (Rows.laid_recordlink_text_replacements : DataW Unit) = .agg (replL.map fun s => .lit (.string s)) := by kernel_rfl

theorem repl_cell {W : World} (h : laidMetH Tryz.prog laid3 W) (i : Nat) (hi : i < 64) : W.cell? ⟨0, i, none⟩ = some (.string ⟨(TM.repl (UInt8.ofNat (128 + i))).toArray⟩) := by
  rw [MakeChecks.laidMetH_plain _ _ _ (by kernel_rfl)] at h
  obtain ⟨ps, ⟨_, _, _, _, _, _, _, _, _, _, ⟨g, t, cs, fuel, p, q, hg, ht, hv, hd, _, _⟩, _⟩, _, _⟩ := h
  obtain rfl := Option.some.inj ((show Tryz.prog.globalNamed "recordlink/text.replacements" = some 0 by kernel_rfl).symm.trans hg)
  obtain rfl := Option.some.inj ((show (Tryz.prog.globals[0]?).map (·.type) = some 90 by kernel_rfl).symm.trans ht)
  rw [replL_data] at hd
  obtain ⟨xs, m, _, ex, _, hl, hel⟩ := DataW.trod_array Tryz.underlying90 hd
  have c9 : Tryz.prog.cellsOf 9 = 1 := by kernel_rfl
  have hE := hel i hi
  rw [c9, Nat.mul_one, List.getElem?_eq_getElem (by omega)] at hE
  obtain ⟨z, e1, e2, _⟩ := DataW.trod_string Tryz.underlying9 hE
  have hlen : replL.length = 64 := by simp [replL]
  have e3 : (xs.map (·.1)) = replL.map fun s => .lit (.string s) := (DataW.agg.inj (Prod.mk.inj ex).1).symm
  have e4 : (xs.map (·.1))[i]? = (replL.map fun s => (DataW.lit (.string s) : DataW Unit))[i]? := by rw [e3]
  rw [List.getElem?_map, List.getElem?_map, List.getElem?_eq_getElem (by omega : i < xs.length), List.getElem?_eq_getElem (by omega : i < replL.length), e2] at e4
  have hz : z.data.toList = TM.repl (UInt8.ofNat (128 + i)) := by
    simp only [Option.map_some, Option.some.injEq, DataW.lit.injEq, Lit.string.injEq] at e4
    rw [e4]
    simp [replL]
  rw [World.var?_cell hg hv i]
  have : cs.toList[i]? = some (.string z) := by
    have h0 : ((cs.toList.drop i).take 1)[0]? = some (.string z) := by rw [e1]; rfl
    simpa using h0
  rw [← hz]
  simpa using this

theorem env_of {W : World} (h : laidMetH Tryz.prog laid3 W) (hs : W.ShapedOpen Tryz.prog) : Env W := by
  obtain ⟨m, hm⟩ := Go.Proofs.cell_of_shapedOpen_int (P := Tryz.prog) (g := 1) (zero := #[.int .i64 0]) (t := 3) hs (of_decide_eq_true (by kernel_rfl)) (by kernel_rfl) rfl (by kernel_rfl) (by kernel_rfl) Tryz.underlying3
  refine ⟨fun d hd => ?_, ⟨m, hm⟩, ?_⟩
  · unfold TM.second at hd
    simp at hd
    have := repl_cell h (d.toNat - 128) (by omega)
    rw [show 128 + (d.toNat - 128) = d.toNat from by omega, UInt8.ofNat_toNat] at this
    exact this
  · obtain ⟨ps, hp, _, _⟩ := (show laidMet Tryz.prog laid3 W by rw [MakeChecks.laidMetH_plain _ _ _ (by kernel_rfl)] at h; exact h)
    obtain ⟨g, t, cs, fuel, p, q, hg, ht, hv, hd, _, _⟩ := hp
    have hgg : g = 3 := (Option.some.inj ((show Tryz.prog.globalNamed "unicode/utf8.acceptRanges" = some 3 by kernel_rfl).symm.trans hg)).symm
    subst hgg
    simp only [World.var?, hg, Option.bind_some] at hv
    rcases Nat.lt_or_ge 3 W.heap.size with h' | h'
    · exact h'
    · rw [Array.getElem?_eq_none h'] at hv; simp at hv

theorem laid_met (os : Os) (args : Array Value) : laidMetH Tryz.prog laid3 ((World.laidAll Tryz.prog os laid3).forCall (fun _ _ => 0) ⟨#[], args, []⟩).memory := by
  rw [MakeChecks.laidMetH_plain _ _ _ (by kernel_rfl)]
  exact laidMet_laidAll _ (by kernel_rfl) (by kernel_rfl)
/-- A slice of ints that is read: what the walks are told of it. -/
theorem ints_arg {H : Type} {enc : TypeId × Value → H} {W : World} {a : Option Addr} {n c : Nat} {d : DataW H} {p : List MemPlace} (h : DataW.Trod enc Tryz.prog W 0 (fun _ => true) true 22 (.slice a n c) d p) : IntsArg W a n c := by
  have lt0 : ∀ x ∈ p, x.block < W.heap.size := by obtain ⟨m, hm⟩ := h; exact DataW.trod_lt m _ _ _ hm
  obtain ⟨fuel, hf⟩ := h
  rcases open_ints Tryz.underlying22 Tryz.underlying3 (by kernel_rfl) hf with ⟨hcs, _⟩ | ⟨x, l, cc, zs, hcs, _, hl, hm, hz, hx, hcell, hwz⟩
  · simp [Value.cells] at hcs
    obtain ⟨rfl, rfl, rfl⟩ := hcs
    exact ⟨Nat.zero_le _, Nat.zero_le _, fun j hj => absurd hj (Nat.not_lt_zero _)⟩
  · simp [Value.cells] at hcs
    obtain ⟨rfl, rfl, rfl⟩ := hcs
    refine ⟨hl, hm, fun j hj => ?_⟩
    have hzl : zs.length = c := by simpa using hz
    have hc := hcell j (by omega)
    obtain ⟨b, off, spot⟩ := x
    have hc0 := hcell 0 (by omega)
    have hspot : spot = none := by simpa [Addr.add] using World.cell?_spot hc0
    subst hspot
    have hb := World.block_lt_of_cell? W _ hc0
    have hw := bounds_i64 (hwz (zs.getD j 0) (by rw [List.getD_eq_getElem?_getD, List.getElem?_eq_getElem (by omega)]; simp))
    have hadd : (⟨b, off, none⟩ : Addr).add j = ⟨b, off + j, none⟩ := by unfold Addr.add; split <;> simp_all
    have hadd0 : ((⟨b, off, none⟩ : Addr).add 0).block = b := by simp [Addr.add]
    rw [hadd] at hc
    rw [hadd0] at hb
    exact ⟨b, off, _, rfl, hb, hc, hw⟩
/-- A slice of texts that is read. -/
theorem texts_arg {H : Type} {enc : TypeId × Value → H} {W : World} {a : Option Addr} {n c : Nat} {d : DataW H} {p : List MemPlace} (h : DataW.Trod enc Tryz.prog W 0 (fun _ => true) true 23 (.slice a n c) d p) : ∃ xs, IsTexts W.heap.size W (.slice a n c) xs := by
  obtain ⟨fuel, hf⟩ := h
  rcases open_strings Tryz.underlying23 Tryz.underlying9 (by kernel_rfl) hf with ⟨hcs, _⟩ | ⟨x, l, cc, ss, hcs, _, hl, hm, hz, hx, hcell, hws⟩
  · simp [Value.cells] at hcs
    obtain ⟨rfl, rfl, rfl⟩ := hcs
    exact ⟨[], none, 0, rfl, Nat.zero_le _, Nat.zero_le _, .inl rfl⟩
  · simp [Value.cells] at hcs
    obtain ⟨rfl, rfl, rfl⟩ := hcs
    have hzl : ss.length = c := by simpa using hz
    have hlen : (ss.take n).length = n := by rw [List.length_take]; omega
    refine ⟨ss.take n, some x, c, by rw [hlen], by rw [hlen]; exact hl, hm, ?_⟩
    by_cases h0 : n = 0
    · left; rw [h0]; rfl
    · right
      obtain ⟨b, off, spot⟩ := x
      have hc0 := hcell 0 (by omega)
      have hspot : spot = none := by simpa [Addr.add] using World.cell?_spot hc0
      subst hspot
      have hb := World.block_lt_of_cell? W _ hc0
      have hadd0 : ((⟨b, off, none⟩ : Addr).add 0).block = b := by simp [Addr.add]
      rw [hadd0] at hb
      refine ⟨b, off, rfl, hb, fun j y hy => ?_⟩
      have hj : j < n := by
        have := (List.getElem?_eq_some_iff.1 hy).1
        omega
      have hc := hcell j (by omega)
      have hadd : (⟨b, off, none⟩ : Addr).add j = ⟨b, off + j, none⟩ := by unfold Addr.add; split <;> simp_all
      rw [hadd] at hc
      rw [hc]
      rw [List.getElem?_take_of_lt hj] at hy
      rw [List.getD_eq_getElem?_getD, hy]
      rfl
end Go.Proofs.YthplnfblpdojkaaGreatDoor
