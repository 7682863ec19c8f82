/- What a row's list gives the walks of layer 7: 'SEnv'; arguments that are lists of numbers, and of changes. -/
import Derived.Test.YtgokinfejbefjaaDoorRows
import Derived.Test.YtgokinfejbefjaaDoorDistLast
import Derived.ProofKit
import Derived.OpenShut
import Derived.LaidMore
import Derived.Lay
import Derived.Stop.Joined
import Derived.Deep.DeepHandedRow
import Derived.Deep.Strs
import Derived.Deep.Slices
namespace Go.Proofs.YtgokinfejbefjaaDoor
open Go.ChangeShapes Go.WideShapes Go.ChangeAt Go.RowKit
set_option linter.unusedVariables false

theorem qOwn : ownKnob Tryd.prog.godebug = none := by kernel_rfl
theorem qLaidOut : laidOutB Tryd.prog = true := by kernel_rfl
/-- What every row of this seat lists. -/
def laidQ : List (String × DataW Unit) := [("recordlink/distance.steps", Rows.laid_recordlink_distance_steps)]

/-- Three integers that are read as a struct. -/
theorem three_ints {H : Type} {enc : TypeId × Value → H} {W : World} {sp : Nat → Bool} {held : Bool} {fuel : Nat} {t : TypeId} {f0 f1 f2 : Field} {l : List Value} {x : DataW H × List MemPlace}
    (ht : Tryd.prog.underlying t = some (.struct #[f0, f1, f2])) (ct : Tryd.prog.cellsOf t = 3) (o0 : f0.offset = 0) (o1 : f1.offset = 1) (o2 : f2.offset = 2)
    (t0 : f0.type = 3) (t1 : f1.type = 3) (t2 : f2.type = 3) (h : DataW.trod enc Tryd.prog W 0 sp held fuel t l = some x) :
    ∃ a b c, l = [.int .i64 a, .int .i64 b, .int .i64 c] ∧ x.1 = .agg [.lit (.int .i64 a), .lit (.int .i64 b), .lit (.int .i64 c)] ∧ ((Lit.int .i64 a).wf = true ∧ (Lit.int .i64 b).wf = true ∧ (Lit.int .i64 c).wf = true) := by
  have ci : Tryd.prog.cellsOf 3 = 1 := by kernel_rfl
  obtain ⟨y0, y1, y2, m, rfl, hl, h0, h1, h2⟩ := Deep.trod_struct3 ht h
  rw [ct] at hl
  match l, hl with
  | [v0, v1, v2], _ =>
    rw [o0, t0, ci] at h0
    rw [o1, t1, ci] at h1
    rw [o2, t2, ci] at h2
    obtain ⟨a, e0, rfl, w0⟩ := DataW.trod_int Tryd.underlying3 h0
    obtain ⟨b, e1, rfl, w1⟩ := DataW.trod_int Tryd.underlying3 h1
    obtain ⟨c, e2, rfl, w2⟩ := DataW.trod_int Tryd.underlying3 h2
    simp at e0 e1 e2
    exact ⟨a, b, c, by rw [e0, e1, e2], rfl, w0, w1, w2⟩

theorem senv_of {W : World} (h : laidMetH Tryd.prog laidQ W) : SEnv W := by
  rw [MakeChecks.laidMetH_plain _ _ _ (by kernel_rfl)] at h
  obtain ⟨ps, ⟨g, t, cs, fuel, p, q, hg, ht, hv, hd, _, _⟩, _, _⟩ := h
  obtain rfl := Option.some.inj ((show Tryd.prog.globalNamed "recordlink/distance.steps" = some 0 by kernel_rfl).symm.trans hg)
  obtain rfl := Option.some.inj ((show (Tryd.prog.globals[0]?).map (·.type) = some 71 by kernel_rfl).symm.trans ht)
  obtain ⟨xs, m, _, ex, hcl, hl, hel⟩ := DataW.trod_array Tryd.underlying71 hd
  have c5 : Tryd.prog.cellsOf 71 = 15 := by kernel_rfl
  have c1 : Tryd.prog.cellsOf 61 = 3 := by kernel_rfl
  rw [c5] at hcl
  have e3 : xs.map (·.1) = [.agg [.lit (.int .i64 0), .lit (.int .i64 1), .lit (.int .i64 1)], .agg [.lit (.int .i64 3), .lit (.int .i64 1), .lit (.int .i64 1)], .agg [.lit (.int .i64 2), .lit (.int .i64 1), .lit (.int .i64 0)], .agg [.lit (.int .i64 1), .lit (.int .i64 0), .lit (.int .i64 1)], .agg [.lit (.int .i64 4), .lit (.int .i64 2), .lit (.int .i64 2)]] :=
    (DataW.agg.inj (Prod.mk.inj ex).1).symm
  have key : ∀ i k o n, i < 5 → (xs.map (·.1))[i]? = some (.agg [.lit (.int .i64 k), .lit (.int .i64 o), .lit (.int .i64 n)]) → (cs.toList.drop (i * 3)).take 3 = [.int .i64 k, .int .i64 o, .int .i64 n] := by
    intro i k o n hi hx
    rw [List.getElem?_map] at hx
    obtain ⟨x, hx1, hx2⟩ := Option.map_eq_some_iff.1 hx
    have hE := hel i hi
    rw [c1, hx1] at hE
    obtain ⟨a, b, c, hl3, hd3, -⟩ := three_ints Tryd.underlying61 c1 rfl rfl rfl rfl rfl rfl hE
    rw [hl3]
    rw [hx2] at hd3
    simp only [DataW.agg.injEq, List.cons.injEq, DataW.lit.injEq, Lit.int.injEq, and_true, true_and] at hd3
    obtain ⟨rfl, rfl, rfl⟩ := hd3
    rfl
  have k0 := key 0 0 1 1 (by decide) (by rw [e3]; rfl)
  have k1 := key 1 3 1 1 (by decide) (by rw [e3]; rfl)
  have k2 := key 2 2 1 0 (by decide) (by rw [e3]; rfl)
  have k3 := key 3 1 0 1 (by decide) (by rw [e3]; rfl)
  have k4 := key 4 4 2 2 (by decide) (by rw [e3]; rfl)
  have hcs : cs = stepsA := by
    have e : cs.toList = (cs.toList.drop (0 * 3)).take 3 ++ ((cs.toList.drop (1 * 3)).take 3 ++ ((cs.toList.drop (2 * 3)).take 3 ++ ((cs.toList.drop (3 * 3)).take 3 ++ (cs.toList.drop (4 * 3)).take 3))) := by
      generalize cs.toList = l at hcl
      match l, hcl with
      | [_, _, _, _, _, _, _, _, _, _, _, _, _, _, _], _ => rfl
    rw [k0, k1, k2, k3, k4] at e
    exact Array.toList_inj.1 (e.trans rfl)
  rw [hcs] at hv
  unfold World.var? at hv
  rw [hg] at hv
  simp only [Option.bind_some] at hv
  split at hv
  · rename_i c T fr hh
    have := Option.some.inj hv
    subst this
    exact ⟨T, fr, hh⟩
  · cases hv

theorem laid_metQ (os : Os) (args : Array Value) : laidMetH Tryd.prog laidQ ((World.laidAll Tryd.prog os laidQ).forCall (fun _ _ => 0) ⟨#[], args, []⟩).memory := by
  rw [MakeChecks.laidMetH_plain _ _ _ (by kernel_rfl)]
  exact laidMet_laidAll _ (by kernel_rfl) (by kernel_rfl)
/-- A slice of ints that is read: what the walks are told of it. -/
theorem qInts_arg {H : Type} {enc : TypeId × Value → H} {W : World} {a : Option Addr} {n c : Nat} {d : DataW H} {p : List MemPlace} (h : DataW.Trod enc Tryd.prog W 0 (fun _ => true) true 22 (.slice a n c) d p) : IntsArg W a n c := by
  have lt0 : ∀ x ∈ p, x.block < W.heap.size := by obtain ⟨m, hm⟩ := h; exact DataW.trod_lt m _ _ _ hm
  obtain ⟨fuel, hf⟩ := h
  rcases open_ints Tryd.underlying22 Tryd.underlying3 (by kernel_rfl) hf with ⟨hcs, _⟩ | ⟨x, l, cc, zs, hcs, _, hl, hm, hz, hx, hcell, hwz⟩
  · simp [Value.cells] at hcs
    obtain ⟨rfl, rfl, rfl⟩ := hcs
    exact ⟨Nat.zero_le _, Nat.zero_le _, fun j hj => absurd hj (Nat.not_lt_zero _)⟩
  · simp [Value.cells] at hcs
    obtain ⟨rfl, rfl, rfl⟩ := hcs
    refine ⟨hl, hm, fun j hj => ?_⟩
    have hzl : zs.length = c := by simpa using hz
    have hc := hcell j (by omega)
    obtain ⟨b, off, spot⟩ := x
    have hc0 := hcell 0 (by omega)
    have hspot : spot = none := by simpa [Addr.add] using World.cell?_spot hc0
    subst hspot
    have hb := World.block_lt_of_cell? W _ hc0
    have hw := bounds_i64 (hwz (zs.getD j 0) (by rw [List.getD_eq_getElem?_getD, List.getElem?_eq_getElem (by omega)]; simp))
    have hadd : (⟨b, off, none⟩ : Addr).add j = ⟨b, off + j, none⟩ := by unfold Addr.add; split <;> simp_all
    have hadd0 : ((⟨b, off, none⟩ : Addr).add 0).block = b := by simp [Addr.add]
    rw [hadd] at hc
    rw [hadd0] at hb
    exact ⟨b, off, _, rfl, hb, hc, hw⟩

/-- A slice of changes that is read. -/
theorem chs_arg {H : Type} {enc : TypeId × Value → H} {W : World} {a0 : Option Addr} {n0 c0 : Nat} {d : DataW H} {p : List MemPlace} (h : DataW.Trod enc Tryd.prog W 0 (fun _ => true) true 23 (.slice a0 n0 c0) d p) : ∃ cs, IsChs W.heap.size W (.slice a0 n0 c0) cs := by
  obtain ⟨fuel, hf⟩ := h
  have c3 : Tryd.prog.cellsOf 46 = 3 := by kernel_rfl
  rcases Deep.open_slice Tryd.underlying23 hf with ⟨hcs, _⟩ | ⟨a, l, cc, m, k, D, Pl, hcs, _, hl, hm, hmm, hx, hel⟩
  · simp [Value.cells] at hcs
    obtain ⟨rfl, rfl, rfl⟩ := hcs
    exact ⟨[], none, 0, rfl, Nat.zero_le _, Nat.zero_le _, by simp, .inl rfl⟩
  · simp [Value.cells] at hcs
    obtain ⟨rfl, rfl, rfl⟩ := hcs
    have hmc : m = c0 := by simpa using hmm
    have each : ∀ i, i < m → ∃ q : DM.Ch, chOk q ∧ W.cell? (a.add (i * 3)) = some (.int .i64 q.1) ∧ W.cell? (a.add (i * 3 + 1)) = some (.int .i64 q.2.1) ∧ W.cell? (a.add (i * 3 + 2)) = some (.int .i64 q.2.2) := by
      intro i hi
      obtain ⟨cs', h1, h2⟩ := hel i hi
      rw [c3] at h1
      obtain ⟨_, _, hc⟩ := World.cells?_some h1
      obtain ⟨x, y, z, rfl, -, w0, w1, w2⟩ := three_ints Tryd.underlying46 c3 rfl rfl rfl rfl rfl rfl h2
      have hadd : ∀ j, (a.add (i * 3)).add j = a.add (i * 3 + j) := by
        intro j
        by_cases e1 : i * 3 = 0
        · rw [e1]
          simp [Addr.add]
        · by_cases e2 : j = 0
          · subst e2
            simp [Addr.add]
          · unfold Addr.add
            rw [if_neg e2, if_neg (show ¬ i * 3 + j = 0 by omega), if_neg e1]
            simp [Nat.add_assoc]
      have b0 := hc 0 (by decide)
      have b1 := hc 1 (by decide)
      have b2 := hc 2 (by decide)
      rw [hadd] at b0 b1 b2
      exact ⟨(x, y, z), ⟨bounds_i64 w0, bounds_i64 w1, bounds_i64 w2⟩, b0, b1, b2⟩
    obtain ⟨q, hq⟩ := Deep.choose_lt each
    refine ⟨(List.range n0).map q, some a, c0, by simp, by simpa using hl, hm, ?_, ?_⟩
    · intro x hx
      obtain ⟨i, hi, rfl⟩ := List.mem_map.1 hx
      exact (hq i (by have := List.mem_range.1 hi; omega)).1
    · by_cases h0 : n0 = 0
      · left; rw [h0]; rfl
      · right
        obtain ⟨b, off, spot⟩ := a
        have hc0 := (hq 0 (by omega)).2.1
        have hspot : spot = none := by simpa [Addr.add] using World.cell?_spot hc0
        subst hspot
        have hb := World.block_lt_of_cell? W _ hc0
        have hadd : ∀ k, (⟨b, off, none⟩ : Addr).add k = ⟨b, off + k, none⟩ := by intro k; unfold Addr.add; split <;> simp_all
        rw [hadd] at hb
        refine ⟨b, off, rfl, hb, fun j x hj => ?_⟩
        obtain ⟨hjl, rfl⟩ : j < n0 ∧ q j = x := by
          rw [List.getElem?_map] at hj
          obtain ⟨i, hi, rfl⟩ := Option.map_eq_some_iff.1 hj
          have := List.getElem?_eq_some_iff.1 hi
          obtain ⟨h1, h2⟩ := this
          simp at h1 h2
          exact ⟨h1, by rw [h2]⟩
        obtain ⟨-, d0, d1, d2⟩ := hq j (by omega)
        rw [hadd] at d0 d1 d2
        exact ⟨d0, by rw [Nat.add_assoc]; exact d1, by rw [Nat.add_assoc]; exact d2⟩
end Go.Proofs.YtgokinfejbefjaaDoor
