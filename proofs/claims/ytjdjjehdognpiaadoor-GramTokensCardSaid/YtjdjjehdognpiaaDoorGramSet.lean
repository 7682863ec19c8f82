/- Sets of texts that are held as maps: setOf, ascending, common, Set, Common. -/
import Derived.Test.YtjdjjehdognpiaaDoorLawsD
import Derived.Test.YtjdjjehdognpiaaDoorGramMath
import Derived.Maps.OwnSet
import Derived.Maps.OwnIn
import Derived.Maps.RangeWalk
import Derived.Sort.OwnSorted
import Derived.OwnWalkIn
import Derived.CallsIn
namespace Go.Proofs.YtjdjjehdognpiaaDoor
open Go.RowKit Go.Maps Go.Sort Go.Shelf Go.WideMaps
set_option maxRecDepth 100000

theorem mapLaw : Keyed Tryd.prog 9 := string_keyed Tryd.underlying9
theorem zeroUnit (w : World) : (zeroValue 58).run Tryd.prog w = .ok (.agg #[]) w := by kernel_rfl

/-- The set of some texts, as a map's datum. -/
def Sd (ls : List (List UInt8)) : DataW Unit := setOf (.agg []) (ls.map Lit.string)
theorem Sd_nil : Sd [] = .map [] := rfl
theorem Sd_snoc (ls : List (List UInt8)) (x : List UInt8) : Sd (ls ++ [x]) = (Sd ls).put (.string x) (.agg []) := by
  unfold Sd
  rw [List.map_append]
  exact setOf_snoc _ _ _
theorem has_Sd (ls : List (List UInt8)) (x : List UInt8) : Maps.has (Sd ls) (.string x) = decide (x ∈ ls) := by
  unfold Sd
  rw [has_setOf _ _ _ (by
    intro y hy
    obtain ⟨z, _, rfl⟩ := List.mem_map.1 hy
    exact trivial), Bool.eq_iff_iff, List.any_map, List.any_eq_true]
  simp only [Function.comp, decide_eq_true_eq]
  constructor
  · rintro ⟨z, hz, h⟩
    have : z = x := by simpa [Lit.sameKey] using h
    exact this ▸ hz
  · intro h
    exact ⟨x, h, by simp [Lit.sameKey]⟩

/-- Block b is the set of some texts. -/
def IsSet (w : World) (b : Nat) (ls : List (List UInt8)) : Prop := w.ownsMap Tryd.prog 9 (unitElem (H := Unit)) b ls.length (Sd ls)
theorem IsSet.below {w w' : World} {b B : Nat} {ls : List (List UInt8)} (h : IsSet w b ls) (hb : Below B w w') (hB : b < B) : IsSet w' b ls := by
  obtain ⟨es, clock, h0, h1, h2, h3⟩ := h
  exact ⟨es, clock, (hb.block b hB).trans h0, h1, h2, h3⟩
theorem IsSet.lt {w : World} {b : Nat} {ls : List (List UInt8)} (h : IsSet w b ls) : b < w.heap.size := World.ownsMap.lt h
theorem IsSet.keys {w : World} {b : Nat} {ls : List (List UInt8)} (h : IsSet w b ls) : (GM.setL ls).Perm (strKeys (Sd ls)) :=
  Collected.perm (left := fun _ => false) ⟨GM.nodup_setL ls, fun x => by rw [has_Sd, GM.mem_setL]; simp⟩ h mapLaw Tryd.underlying9 (fun _ => rfl)
theorem IsSet.size {w : World} {b : Nat} {ls : List (List UInt8)} (h : IsSet w b ls) : Maps.size (Sd ls) = (GM.setL ls).length := by
  rw [h.keys.length_eq]
  obtain ⟨es, he⟩ := World.ownsMap.isMap h
  rw [he]
  show es.length = (es.map fun p => strOf p.1).length
  simp

/-- A row of this call's own that holds some texts. -/
def OwnsL (base : Nat) (w : World) (v : Value) (ls : List (List UInt8)) : Prop := w.ownsRow base 9 1 v ls.length (ls.map encStr)
theorem OwnsL.texts {base : Nat} {w : World} {v : Value} {ls : List (List UInt8)} (h : OwnsL base w v ls) : IsTexts w.heap.size w v (ls.map bs) := by
  refine IsTexts.of_own (base := base) ?_
  have e : (ls.map bs).map Value.string = ls.map encStr := by simp [bs]
  rw [e, List.length_map]
  exact h
theorem map_bs (ls : List (List UInt8)) : (ls.map bs).map (·.data.toList) = ls := by
  rw [List.map_map]
  conv => rhs; rw [← List.map_id ls]
  rfl
theorem bs_map (xs : List ByteArray) : (xs.map (·.data.toList)).map bs = xs := by
  rw [List.map_map]
  conv => rhs; rw [← List.map_id xs]
  rfl
theorem OwnsL.lists {base : Nat} {w : World} {v : Value} {ls : List (List UInt8)} (h : OwnsL base w v ls) : IsLists w.heap.size w v ls := ⟨ls.map bs, h.texts, map_bs ls⟩
theorem owns_texts {base : Nat} {w : World} {v : Value} {xs : List ByteArray} (h : w.ownsRow base 9 1 v xs.length (xs.map Value.string)) : OwnsL base w v (xs.map (·.data.toList)) := by
  unfold OwnsL
  have e : (xs.map (·.data.toList)).map encStr = xs.map Value.string := by simp [encStr]
  rw [e, List.length_map]
  exact h

set_option maxHeartbeats 1000000 in
theorem setOf_any (B : Nat) (v : Value) (xs : List ByteArray) (w : World) (h : IsTexts B w v xs) (hB : B ≤ w.heap.size) (_hl : xs.length ≤ 1000000) (hz : ∀ x ∈ xs, x.size ≤ 1048576) :
    Calls Tryd.prog 36 #[v] w fun e w' => e = .returned (.map (some w.heap.size)) ∧ IsSet w' w.heap.size (xs.map (·.data.toList)) ∧ Below w.heap.size w w' := by
  have hmm := @run_makeMap Tryd.prog
  obtain ⟨a, c, rfl, h1, h2, h3⟩ := h
  have HX := Lib.hid h3
  clear h3
  have HSz := Lib.hid (show ∀ x ∈ xs, x.size ≤ maxLen from fun x hx => Nat.le_trans (hz x hx) (by unfold maxLen; decide))
  clear hz
  unfold maxLen at h2
  go_enter Tryd.func36, Tryd.ntmps36
  go_wp2
  go_loopw [9] (fun i wr => ∃ k : Nat, k ≤ xs.length ∧ i = .int .i64 k ∧ wr.ownsMap Tryd.prog 9 (unitElem (H := Unit)) w.heap.size k (Sd ((xs.take k).map (·.data.toList))) ∧ Below w.heap.size w wr) (fun i _ => xs.length - (intOf i).toNat)
  case atStart => exact ⟨0, Nat.zero_le _, rfl, World.ownsMap_made _ _ _ _, (Below.refl _ _).alloc (Nat.le_refl _) _⟩
  case round =>
    obtain ⟨k, hk, rfl, hown, hbw⟩ := hrel
    by_cases hlt : k < xs.length
    · obtain ⟨b, o, rfl, hbB, hc⟩ := HX.out.resolve_left (by intro e; rw [e] at hlt; exact absurd hlt (Nat.not_lt_zero _))
      have hcell := (hbw.cell (p := ⟨b, o + k, none⟩) (by show b < w.heap.size; omega)).trans (hc k _ (List.getElem?_eq_getElem hlt))
      have hkey : keyOf Tryd.prog 9 (.string xs[k]) = some (.string xs[k].data.toList) := keyOf_string_mk Tryd.underlying9 (HSz.out _ (List.getElem_mem hlt))
      have HT := Lib.hid (show Sd ((xs.take (k + 1)).map (·.data.toList)) = (Sd ((xs.take k).map (·.data.toList))).put (.string xs[k].data.toList) (.agg []) by
        rw [List.take_succ_eq_append_getElem hlt, List.map_append]
        exact Sd_snoc _ _)
      have HO := Lib.hid hown
      clear hown hc
      go_wp2_with (at_mapUpdate; refine wpList_mapUpdate_own _ rfl _ _ _ 51 rfl 9 58 mapLaw Tryd.underlying51 (unitElem (H := Unit)) w.heap.size k _ rfl HO.out (by unfold maxLen; omega) _ _ _ rfl rfl hkey _ [] unitElem_mk ?_; intro w1 hown1 hgrow1)
      exact ⟨⟨k + 1, by omega, by go_num, HT.out.symm ▸ hown1, hbw.grown hgrow1 hbw.size (fun j hj => by cases hj; exact Nat.le_refl _)⟩, by simp [intOf]; omega⟩
    · have HO := Lib.hid hown
      clear hown
      go_wp2
      go_ret
      refine ⟨rfl, ?_, hbw⟩
      have hk' : xs.take k = xs := List.take_of_length_le (by omega)
      have := HO.out
      rw [hk'] at this
      unfold IsSet
      rw [List.length_map]
      exact this.mono hk
end Go.Proofs.YtjdjjehdognpiaaDoor
