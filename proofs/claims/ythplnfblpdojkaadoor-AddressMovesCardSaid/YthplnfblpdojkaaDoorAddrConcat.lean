/- slices.Concat of two slices of texts. -/
import Derived.Test.YthplnfblpdojkaaDoorAddrParts
namespace Go.Proofs.YthplnfblpdojkaaDoor
open Go.RowKit
set_option linter.unusedVariables false
set_option maxRecDepth 100000

set_option maxRecDepth 100000 in
set_option maxHeartbeats 4000000 in
/-- slices.Concat of two slices of texts, written out in a row of the caller's. -/
theorem Concat_two (B q : Nat) (av bv : Value) (xs ys : List ByteArray) (w : World) (hq : q < w.heap.size) (c0 : w.cell? ⟨q, 0, none⟩ = some av) (c1 : w.cell? ⟨q, 1, none⟩ = some bv)
    (hx : IsTexts B w av xs) (px : Proper av) (hy : IsTexts B w bv ys) (py : Proper bv) (hB : B ≤ w.heap.size) (hl : xs.length + ys.length ≤ 1000) :
    Calls Tryd.prog 30 #[.slice (some ⟨q, 0, none⟩) 2 2] w fun e w' => ∃ u, e = .returned u ∧ (IsTexts w'.heap.size w' u (xs ++ ys) ∧ Proper u) ∧ Below w.heap.size w w' := by
  have HXA := Lib.hid hx
  have HYA := Lib.hid hy
  obtain ⟨xa, xc, rfl, x1, x2, -⟩ := hx
  obtain ⟨ya, yc, rfl, y1, y2, -⟩ := hy
  unfold maxLen at x2 y2
  have hcell : ∀ k, k < 2 → ∃ sa sl sc, w.cell? ⟨q, k, none⟩ = some (.slice sa sl sc) ∧ sl ≤ 1000 ∧ sl ≤ sc ∧ sc ≤ 9223372036854775807 ∧ ((k = 0 ∧ sl = xs.length) ∨ (k = 1 ∧ sl = ys.length)) ∧
      ∃ zs : List ByteArray, IsTexts B w (.slice sa sl sc) zs ∧ Proper (.slice sa sl sc) ∧ zs.length ≤ 1000 ∧ ((k = 0 ∧ zs = xs) ∨ (k = 1 ∧ zs = ys)) := by
    intro k hk
    match k, hk with
    | 0, _ => exact ⟨xa, xs.length, xc, c0, by omega, by omega, by omega, .inl ⟨rfl, rfl⟩, xs, HXA.out, px, by omega, .inl ⟨rfl, rfl⟩⟩
    | 1, _ => exact ⟨ya, ys.length, yc, c1, by omega, by omega, by omega, .inr ⟨rfl, rfl⟩, ys, HYA.out, py, by omega, .inr ⟨rfl, rfl⟩⟩
  have HCE := Lib.hid hcell
  clear hcell c0 c1 px py
  go_enter Tryd.func30, Tryd.ntmps30
  go_wp2
  go_loop [3, 11] (fun n i => ∃ (k m : Nat), k ≤ 2 ∧ i = .int .i64 k ∧ n = .int .i64 m ∧ m ≤ k * 1000 ∧ (k = 2 → m = xs.length + ys.length) ∧ (k = 1 → m = xs.length)) (fun _ i => 2 - (intOf i).toNat)
  case atStart => exact ⟨0, 0, by omega, rfl, rfl, by omega, by omega, by omega⟩
  case round =>
    obtain ⟨k, m, hk, rfl, rfl, hm, hm2, hm1⟩ := hrel
    by_cases hlt : k < 2
    · obtain ⟨sa, sl, sc, hc, hs1, hs2, hs3, hs4, -⟩ := HCE.out k hlt
      have ht : ¬ ((m : Int) + (sl : Int) < 0) := by omega
      go_wp2
      refine ⟨⟨k + 1, m + sl, by omega, by go_num, by go_num, by omega, by omega, by omega⟩, by simp [intOf]; omega⟩
    · obtain rfl : k = 2 := by omega
      have hmB : m ≤ 100000 := by omega
      clear hm2 hm1 hm
      go_wp2_with fail
      refine (Grow_any m w hmB).mono ?_
      rintro e w1 ⟨v1, rfl, hown1, b1⟩
      have HO1 := Lib.hid hown1
      clear hown1
      go_wp2
      go_loopw [6, 27] (fun v i wr => ∃ (k : Nat), k ≤ 2 ∧ i = .int .i64 k ∧ (∃ zs : List ByteArray, wr.ownsRow w.heap.size 9 1 v zs.length (zs.map Value.string) ∧ ((k = 0 ∧ zs = []) ∨ (k = 1 ∧ zs = xs) ∨ (k = 2 ∧ zs = xs ++ ys))) ∧ Below w.heap.size w wr) (fun _ i _ => 2 - (intOf i).toNat)
      case atStart => exact ⟨0, by omega, rfl, ⟨[], HO1.out, .inl ⟨rfl, rfl⟩⟩, b1⟩
      case round =>
        obtain ⟨k, hk, rfl, ⟨zs, hown, hzs⟩, hbw⟩ := hrel
        have hwr := hbw.size
        have HW := Lib.hid hown
        have HZS := Lib.hid hzs
        clear hown hzs
        by_cases hlt : k < 2
        · obtain ⟨sa, sl, sc, hc, hs1, hs2, hs3, -, us, hu, hpu, hul, huz⟩ := HCE.out k hlt
          have hc := (hbw.cell (p := ⟨q, k, none⟩) hq).trans hc
          have hu' := hu.keep (hbw.mono hB)
          have HUZ := Lib.hid huz
          clear huz hu
          have hzl : zs.length + us.length ≤ 1000 := by
            rcases HZS.out with ⟨rfl, rfl⟩ | ⟨rfl, rfl⟩ | ⟨rfl, rfl⟩
            · rcases HUZ.out with ⟨-, rfl⟩ | ⟨h, rfl⟩
              · simp; omega
              · omega
            · rcases HUZ.out with ⟨h, rfl⟩ | ⟨-, rfl⟩
              · omega
              · omega
            · omega
          go_wp2_with (at_builtin; refine wpList_append_texts rfl _ _ rfl w.heap.size (by omega) _ zs rfl HW.out B _ us rfl hu' hpu hzl ?_)
          intro v' w2 hown' hgrow
          go_wp2
          refine ⟨⟨k + 1, by omega, by go_num, ⟨zs ++ us, by rw [List.length_append, List.map_append]; exact hown', ?_⟩, ?_⟩, by simp [intOf]; omega⟩
          · rcases HZS.out with ⟨rfl, rfl⟩ | ⟨rfl, rfl⟩ | ⟨rfl, rfl⟩
            · rcases HUZ.out with ⟨-, rfl⟩ | ⟨h, rfl⟩
              · exact .inr (.inl ⟨rfl, rfl⟩)
              · omega
            · rcases HUZ.out with ⟨h, rfl⟩ | ⟨-, rfl⟩
              · omega
              · exact .inr (.inr ⟨rfl, rfl⟩)
            · omega
          · exact hbw.grown hgrow hwr (fun g hg => (HW.out.lt g hg).1)
        · obtain rfl : k = 2 := by omega
          have hz : zs = xs ++ ys := by
            rcases HZS.out with ⟨h, -⟩ | ⟨h, -⟩ | ⟨-, h⟩
            · omega
            · omega
            · exact h
          go_wp2
          go_ret
          have h := HW.out
          rw [hz] at h
          exact ⟨_, rfl, ⟨IsTexts.of_own h, proper_own h⟩, hbw⟩
end Go.Proofs.YthplnfblpdojkaaDoor
