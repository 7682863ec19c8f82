/- Walks of layer 2's Canonical, Dropped, Check, and the reference's. -/
import Derived.Test.YthplnfblpdojkaaDoorNameRules2
namespace Go.Proofs.YthplnfblpdojkaaDoor
open Go.RowKit
set_option linter.unusedVariables false
set_option maxRecDepth 100000

/-- A value that reads as rules. -/
def IsRules (B : Nat) (w : World) (v : Value) (r : RL) : Prop := ∃ tv nv sv, v = .agg #[tv, nv, sv] ∧ IsTexts B w tv r.titles ∧ IsPairs B w nv r.nicks ∧ IsPairs B w sv r.streets
theorem IsRules.keep {B : Nat} {w w' : World} {v : Value} {r : RL} (h : IsRules B w v r) (hb : Below B w w') : IsRules B w' v r := by
  obtain ⟨tv, nv, sv, rfl, h1, h2, h3⟩ := h
  exact ⟨tv, nv, sv, rfl, h1.keep hb, h2.keep hb, h3.keep hb⟩
theorem IsRules.more {B B' : Nat} {w : World} {v : Value} {r : RL} (h : IsRules B w v r) (hb : B ≤ B') : IsRules B' w v r := by
  obtain ⟨tv, nv, sv, rfl, h1, h2, h3⟩ := h
  exact ⟨tv, nv, sv, rfl, h1.more hb, h2.more hb, h3.more hb⟩

set_option maxHeartbeats 400000 in
theorem Dropped_any (B : Nat) (v : Value) (r : RL) (x : ByteArray) (w : World) (h : IsRules B w v r) (hB : B ≤ w.heap.size) :
    Calls Tryd.prog 52 #[v, .string x] w fun e w' => e = .returned (.bool (hasB r.titles x)) ∧ Below w.heap.size w w' := by
  obtain ⟨tv, nv, sv, rfl, h1, -, -⟩ := h
  have b0 : Below B w (w.alloc (.cells #[tv, nv, sv] 30)) := (Below.refl _ w).alloc hB _
  have HC := Lib.hid (Contains_any B tv r.titles x _ (h1.keep b0))
  clear h1
  go_enter Tryd.func52, Tryd.ntmps52
  go_wp2_with fail
  refine HC.out.mono ?_
  rintro e w' ⟨rfl, rfl⟩
  go_wp2
  go_ret
  exact ⟨rfl, (Below.refl _ w).alloc (Nat.le_refl _) _⟩
theorem makes_drop (r : RL) (k : Nat) (h : k < r.nicks.length) : ((r.nicks.drop k).any fun p => hasB r.titles p.2) = (hasB r.titles r.nicks[k].2 || (r.nicks.drop (k + 1)).any fun p => hasB r.titles p.2) := by
  rw [List.drop_eq_getElem_cons h]; rfl

set_option maxRecDepth 100000 in
set_option maxHeartbeats 1000000 in
theorem makesTitle_any (B : Nat) (v : Value) (r : RL) (w : World) (h : IsRules B w v r) (hB : B ≤ w.heap.size) :
    Calls Tryd.prog 40 #[v] w fun e w' => e = .returned (.bool (makesB r)) ∧ Below w.heap.size w w' := by
  have HR := Lib.hid h
  obtain ⟨tv, nv, sv, rfl, -, h1, -⟩ := h
  by_cases hne : r.nicks = []
  · have HM := Lib.hid (show makesB r = false by unfold makesB; rw [hne]; rfl)
    rw [hne] at h1
    obtain ⟨a, c, rfl⟩ := h1.nil_
    clear h1
    go_enter Tryd.func40, Tryd.ntmps40
    go_wp2
    go_loop [8] (fun i => i = .int .i64 0) (fun _ => 0)
    case atStart => rfl
    case round =>
      obtain rfl := hrel
      go_wp2
      go_ret
      exact ⟨ret_bool HM.out.symm, (Below.refl _ w).alloc (Nat.le_refl _) _⟩
  · obtain ⟨b, o, c, rfl, z1, z2, hlt, hc⟩ := h1.at_ hne
    have hb0 : b < w.heap.size := by omega
    have HC := Lib.hid hc
    clear hc h1
    unfold maxLen at z2
    go_enter Tryd.func40, Tryd.ntmps40
    go_wp2
    go_loopw [8] (fun i wr => ∃ (k : Nat), k ≤ r.nicks.length ∧ i = .int .i64 k ∧ ((r.nicks.drop k).any fun p => hasB r.titles p.2) = makesB r ∧ Below (w.heap.size + 1) (w.alloc (.cells #[tv, .slice (some ⟨b, o, none⟩) r.nicks.length c, sv] 30)) wr) (fun i _ => r.nicks.length - (intOf i).toNat)
    case atStart => exact ⟨0, by omega, rfl, rfl, Below.refl _ _⟩
    case round =>
      obtain ⟨k, hk, rfl, hacc, hbw⟩ := hrel
      have HA := Lib.hid hacc
      clear hacc
      have hbw' : Below w.heap.size w wr := ((Below.refl _ w).alloc (Nat.le_refl _) _).trans (hbw.mono (by omega))
      by_cases hlt : k < r.nicks.length
      · obtain ⟨hc, hc'⟩ := HC.out k hlt
        have hc := (hbw'.cell (p := ⟨b, o + k * 2, none⟩) hb0).trans hc
        have hc' := (hbw'.cell (p := ⟨b, o + k * 2 + 1, none⟩) hb0).trans hc'
        have hsz : w.heap.size < wr.heap.size := by have := hbw.size; simp at this; omega
        have g0 : wr.cell? ⟨w.heap.size, 0, none⟩ = some tv := (hbw.cell (p := ⟨w.heap.size, 0, none⟩) (by simp)).trans (by simp)
        have g1 : wr.cell? ⟨w.heap.size, 1, none⟩ = some (.slice (some ⟨b, o, none⟩) r.nicks.length c) := (hbw.cell (p := ⟨w.heap.size, 1, none⟩) (by simp)).trans (by simp)
        have g2 : wr.cell? ⟨w.heap.size, 2, none⟩ = some sv := (hbw.cell (p := ⟨w.heap.size, 2, none⟩) (by simp)).trans (by simp)
        have HS := Lib.hid (makes_drop r k hlt)
        go_wp2_with fail
        have b2 : Below wr.heap.size wr (wr.alloc (.cells #[.string r.nicks[k].1, .string r.nicks[k].2] 46)) := (Below.refl _ wr).alloc (Nat.le_refl _) _
        refine (Dropped_any B _ r _ _ (HR.out.keep ((hbw'.trans (b2.mono (by omega))).mono hB)) (by simp; omega)).mono ?_
        rintro e w1 ⟨rfl, b3⟩
        have b3' : Below (w.heap.size + 1) (w.alloc (.cells #[tv, .slice (some ⟨b, o, none⟩) r.nicks.length c, sv] 30)) w1 := hbw.trans ((b2.trans (b3.mono (by simp))).mono (by omega))
        have b4 : Below w.heap.size w w1 := ((Below.refl _ w).alloc (Nat.le_refl _) _).trans (b3'.mono (by omega))
        clear g0 g1 g2
        cases hq : hasB r.titles r.nicks[k].2
        · have HQ := Lib.hid hq
          clear hq
          go_wp2
          refine ⟨⟨k + 1, by omega, by go_num, ?_, b3'⟩, by simp [intOf]; omega⟩
          rw [← HA.out, HS.out, HQ.out]; rfl
        · have HQ := Lib.hid hq
          clear hq
          go_wp2
          go_ret
          refine ⟨ret_bool ?_, b4⟩
          rw [← HA.out, HS.out, HQ.out]; rfl
      · go_wp2
        go_ret
        refine ⟨ret_bool ?_, hbw'⟩
        rw [← HA.out, List.drop_eq_nil_of_le (by omega)]
        rfl

/-- A box of rules, later. -/
theorem box_cells {w W : World} {tv nv sv : Value} (hb : Below (w.heap.size + 1) (w.alloc (.cells #[tv, nv, sv] 30)) W) :
    W.cell? ⟨w.heap.size, 0, none⟩ = some tv ∧ W.cell? ⟨w.heap.size, 1, none⟩ = some nv ∧ W.cell? ⟨w.heap.size, 2, none⟩ = some sv :=
  ⟨(hb.cell (p := ⟨w.heap.size, 0, none⟩) (by simp)).trans (by simp), (hb.cell (p := ⟨w.heap.size, 1, none⟩) (by simp)).trans (by simp), (hb.cell (p := ⟨w.heap.size, 2, none⟩) (by simp)).trans (by simp)⟩

theorem long_iff (r : RL) : longB r = true ↔ 32 < r.titles.length ∨ 32 < r.nicks.length ∨ 32 < r.streets.length := by
  unfold longB; simp
theorem check_long (r : RL) (h : longB r = true) : checkV r = 1 := by unfold checkV; rw [h]; rfl
theorem check_bad (r : RL) (h : longB r = false) (hb : rightB r = false) : checkV r = 5 := by unfold checkV; rw [h, hb]; rfl
theorem check_ok (r : RL) (h : longB r = false) (hb : rightB r = true) : checkV r = 0 := by unfold checkV; rw [h, hb]; rfl
theorem ret_int {a b : Int} (h : a = b) : Ending.returned (.int .i64 a) = .returned (.int .i64 b) := by rw [h]

set_option maxRecDepth 100000 in
set_option maxHeartbeats 1000000 in
theorem Check_any (B : Nat) (v : Value) (r : RL) (w : World) (h : IsRules B w v r) (hB : B ≤ w.heap.size) :
    Calls Tryd.prog 25 #[v] w fun e w' => e = .returned (.int .i64 (checkV r)) ∧ Below w.heap.size w w' := by
  have HR := Lib.hid h
  obtain ⟨tv, nv, sv, rfl, h1, h2, h3⟩ := h
  have H1 := Lib.hid h1
  have H2 := Lib.hid h2
  have H3 := Lib.hid h3
  obtain ⟨ta, tc, rfl, t1, t2, _⟩ := h1
  obtain ⟨na, nc, rfl, n1, n2, _⟩ := h2
  obtain ⟨sa, sc, rfl, s1, s2, _⟩ := h3
  unfold maxLen at t2 n2 s2
  have b0 : Below w.heap.size w (w.alloc (.cells #[.slice ta r.titles.length tc, .slice na r.nicks.length nc, .slice sa r.streets.length sc] 30)) := (Below.refl _ w).alloc (Nat.le_refl _) _
  by_cases hlong : longB r = true
  · have HK := Lib.hid (check_long r hlong)
    rw [long_iff] at hlong
    go_enter Tryd.func25, Tryd.ntmps25
    go_wp2_with fail
    all_goals first
      | (go_ret; exact ⟨ret_int HK.out.symm, b0⟩)
      | (exfalso; have h := ‹(_ : Int) ≤ 32›; split at h <;> (try split at h) <;> omega)
  · have hlong' : longB r = false := by simpa using hlong
    have HKB := Lib.hid (check_bad r hlong')
    have HKO := Lib.hid (check_ok r hlong')
    rw [long_iff] at hlong
    clear hlong'
    have q1 : r.titles.length ≤ 32 := by omega
    have q2 : r.nicks.length ≤ 32 := by omega
    have q3 : r.streets.length ≤ 32 := by omega
    clear hlong
    go_enter Tryd.func25, Tryd.ntmps25
    go_wp2_with fail
    all_goals
      refine (areTokens_any B _ r.titles _ (H1.out.keep (b0.mono hB)) (by simp; omega)).mono ?_
      rintro e w1 ⟨rfl, b1⟩
      have c1 := b1.mono (B' := w.heap.size + 1) (by simp)
      have b1' := b0.trans (c1.mono (by omega))
      obtain ⟨g0, g1, g2⟩ := box_cells c1
      cases hq1 : areTokB r.titles
      · have HQ := Lib.hid (HKB.out (by unfold rightB; rw [hq1]; rfl))
        clear hq1
        go_wp2
        go_ret
        exact ⟨ret_int HQ.out.symm, b1'⟩
      · have HQ1 := Lib.hid hq1
        clear hq1
        go_wp2_with fail
        clear g0 g1 g2
        refine (arePairs_any B _ r.nicks _ (H2.out.keep (b1'.mono hB)) (Nat.le_trans hB b1'.size) (by omega)).mono ?_
        rintro e w2 ⟨rfl, b2⟩
        have c2 := c1.trans (b2.mono (by have := c1.size; simpa using this))
        have b2' := b0.trans (c2.mono (by omega))
        obtain ⟨g0, g1, g2⟩ := box_cells c2
        cases hq2 : arePairsB r.nicks
        · have HQ := Lib.hid (HKB.out (by unfold rightB; rw [HQ1.out, hq2]; rfl))
          clear hq2
          go_wp2
          go_ret
          exact ⟨ret_int HQ.out.symm, b2'⟩
        · have HQ2 := Lib.hid hq2
          clear hq2
          go_wp2_with fail
          clear g0 g1 g2
          refine (arePairs_any B _ r.streets _ (H3.out.keep (b2'.mono hB)) (Nat.le_trans hB b2'.size) (by omega)).mono ?_
          rintro e w3 ⟨rfl, b3⟩
          have c3 := c2.trans (b3.mono (by have := c2.size; simpa using this))
          have b3' := b0.trans (c3.mono (by omega))
          obtain ⟨g0, g1, g2⟩ := box_cells c3
          cases hq3 : arePairsB r.streets
          · have HQ := Lib.hid (HKB.out (by unfold rightB; rw [HQ1.out, HQ2.out, hq3]; rfl))
            clear hq3
            go_wp2
            go_ret
            exact ⟨ret_int HQ.out.symm, b3'⟩
          · have HQ3 := Lib.hid hq3
            clear hq3
            go_wp2_with fail
            clear g0 g1 g2
            refine (makesTitle_any B _ r _ (HR.out.keep (b3'.mono hB)) (Nat.le_trans hB b3'.size)).mono ?_
            rintro e w4 ⟨rfl, b4⟩
            have b4' := b3'.trans (b4.mono b3'.size)
            cases hq4 : makesB r
            · have HQ := Lib.hid (HKO.out (by unfold rightB; rw [HQ1.out, HQ2.out, HQ3.out, hq4]; rfl))
              clear hq4
              go_wp2
              go_ret
              exact ⟨ret_int HQ.out.symm, b4'⟩
            · have HQ := Lib.hid (HKB.out (by unfold rightB; rw [HQ1.out, HQ2.out, HQ3.out, hq4]; rfl))
              clear hq4
              go_wp2
              go_ret
              exact ⟨ret_int HQ.out.symm, b4'⟩
end Go.Proofs.YthplnfblpdojkaaDoor
