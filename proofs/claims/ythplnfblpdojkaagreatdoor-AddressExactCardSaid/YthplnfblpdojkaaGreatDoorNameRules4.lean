/- Walk of the reference's Check. -/
import Derived.Test.YthplnfblpdojkaaGreatDoorNameRules3
namespace Go.Proofs.YthplnfblpdojkaaGreatDoor
open Go.RowKit
set_option linter.unusedVariables false
set_option maxRecDepth 100000

theorem quiet_left {P : Program} {f : FuncId} {args : Array Value} {w : World} {n : Nat} {v : Value}
    (h : Calls P f args (w.drewN n) fun e w' => e = .returned v ∧ w.drewN n = w') : Calls P f args (w.drewN n) fun e w'' => e = .returned v ∧ ∃ m, w'' = w.drewN m :=
  h.mono fun _ _ ⟨he, hm⟩ => ⟨he, n, hm.symm⟩

theorem right_tok (r : RL) (k : Nat) (h : k < r.titles.length) (hf : tokB r.titles[k] = false) : rightB r = false := by
  unfold rightB
  rw [areTok_split]
  have : r.titles.all tokB = false := by
    rw [List.all_eq_false]
    exact ⟨r.titles[k], List.getElem_mem h, by rw [hf]; simp⟩
  rw [this]; rfl
theorem right_rest (r : RL) (h : ∀ j, ∀ hj : j < r.titles.length, tokB r.titles[j] = true) : rightB r = (ascB r.titles && (arePairsB r.nicks && (arePairsB r.streets && !makesB r))) := by
  unfold rightB
  rw [areTok_split]
  have : r.titles.all tokB = true := by
    rw [List.all_eq_true]
    intro x hx
    obtain ⟨k, hk, rfl⟩ := List.mem_iff_getElem.1 hx
    exact h k hk
  rw [this]; rfl

set_option maxRecDepth 100000 in
set_option maxHeartbeats 2000000 in
theorem rCheck_any (B : Nat) (v : Value) (r : RL) (w : World) (h : IsRules B w v r) (hB : B ≤ w.heap.size) :
    Calls Tryz.prog 39 #[v] w fun e w' => e = .returned (.int .i64 (checkV r)) ∧ Below w.heap.size w w' := by
  obtain ⟨tv, nv, sv, rfl, h1, h2, h3⟩ := h
  have H1 := Lib.hid h1
  have H2 := Lib.hid h2
  have H3 := Lib.hid h3
  obtain ⟨ta, tc, rfl, t1, t2, hta⟩ := h1
  obtain ⟨na, nc, rfl, n1, n2, hna⟩ := h2
  obtain ⟨sa, sc, rfl, s1, s2, _⟩ := h3
  have HTA := Lib.hid hta
  have HNA := Lib.hid hna
  clear hta hna
  unfold maxLen at t2 n2 s2
  have b0 : Below w.heap.size w (w.alloc (.cells #[.slice ta r.titles.length tc, .slice na r.nicks.length nc, .slice sa r.streets.length sc] 26)) := (Below.refl _ w).alloc (Nat.le_refl _) _
  by_cases hlong : longB r = true
  · have HK := Lib.hid (check_long r hlong)
    rw [long_iff] at hlong
    go_enter Tryz.func39, Tryz.ntmps39
    go_wp2_with fail
    all_goals first
      | (go_ret; exact ⟨ret_int HK.out.symm, b0⟩)
      | (exfalso; omega)
  · have hlong' : longB r = false := by simpa using hlong
    have HKB := Lib.hid (check_bad r hlong')
    have HKO := Lib.hid (check_ok r hlong')
    rw [long_iff] at hlong
    clear hlong'
    have q1 : r.titles.length ≤ 32 := by omega
    have q2 : r.nicks.length ≤ 32 := by omega
    have q3 : r.streets.length ≤ 32 := by omega
    have q1' : ¬ (32 : Int) < (r.titles.length : Int) := by omega
    have q2' : ¬ (32 : Int) < (r.nicks.length : Int) := by omega
    have q3' : ¬ (32 : Int) < (r.streets.length : Int) := by omega
    clear hlong
    go_enter Tryz.func39, Tryz.ntmps39
    go_wp2
    go_loopw [3] (fun i wr => ∃ (k : Nat), k ≤ r.titles.length ∧ i = .int .i64 k ∧ (∀ j, ∀ hj : j < r.titles.length, j < k → tokB r.titles[j] = true) ∧ Below (w.heap.size + 1) (w.alloc (.cells #[.slice ta r.titles.length tc, .slice na r.nicks.length nc, .slice sa r.streets.length sc] 26)) wr) (fun i _ => r.titles.length - (intOf i).toNat)
    case atStart => exact ⟨0, by omega, rfl, fun j _ hj => absurd hj (Nat.not_lt_zero _), Below.refl _ _⟩
    case round =>
      obtain ⟨k, hk, rfl, hacc, hbw⟩ := hrel
      have HA := Lib.hid hacc
      clear hacc
      have hbw' : Below w.heap.size w wr := b0.trans (hbw.mono (by omega))
      obtain ⟨g0, g1, g2⟩ := box_cells hbw
      have hwr := hbw'.size
      by_cases hlt : k < r.titles.length
      · obtain ⟨b, o, rfl, hbB, hc⟩ := HTA.out.resolve_left (by intro e; rw [e] at hlt; exact absurd hlt (Nat.not_lt_zero _))
        have hc := (hbw'.cell (p := ⟨b, o + k, none⟩) (by show b < w.heap.size; omega)).trans (hc k _ (List.getElem?_eq_getElem hlt))
        go_wp2_with fail
        refine (rtoken_any _ _).mono ?_
        rintro e w1 ⟨rfl, b1⟩
        have b1r := hbw.trans (b1.mono (by have := hbw.size; simpa using this))
        have b1' := b0.trans (b1r.mono (by omega))
        clear g0 g1 g2
        cases hq : tokB r.titles[k]
        · have HQ := Lib.hid (HKB.out (right_tok r k hlt hq))
          clear hq
          go_wp2
          go_ret
          exact ⟨ret_int HQ.out.symm, b1'⟩
        · have HQ := Lib.hid hq
          clear hq
          go_wp2
          refine ⟨⟨k + 1, by omega, by go_num, fun j hj hjk => ?_, b1r⟩, by simp [intOf]; omega⟩
          by_cases hj' : j < k
          · exact HA.out j hj hj'
          · obtain rfl : j = k := by omega
            exact HQ.out
      · have HE := Lib.hid (right_rest r (fun j hj => HA.out j hj (by omega)))
        go_wp2_with fail
        clear g0 g1 g2
        refine (rascending_any B _ r.titles _ (H1.out.keep (hbw'.mono hB))).mono ?_
        rintro e w1 ⟨rfl, b1⟩
        have c1 := hbw.trans (b1.mono (by have := hbw.size; simpa using this))
        have b1' := b0.trans (c1.mono (by omega))
        obtain ⟨g0, g1, g2⟩ := box_cells c1
        cases hq1 : ascB r.titles
        · have HQ := Lib.hid (HKB.out (by rw [HE.out, hq1]; rfl))
          clear hq1
          go_wp2
          go_ret
          exact ⟨ret_int HQ.out.symm, b1'⟩
        · have HQ1 := Lib.hid hq1
          clear hq1
          go_wp2_with fail
          clear g0 g1 g2
          refine (rpairs_any B _ r.nicks _ (H2.out.keep (b1'.mono hB)) (Nat.le_trans hB b1'.size) (by omega)).mono ?_
          rintro e w2 ⟨rfl, b2⟩
          have c2 := c1.trans (b2.mono (by have := c1.size; simpa using this))
          have b2' := b0.trans (c2.mono (by omega))
          obtain ⟨g0, g1, g2⟩ := box_cells c2
          cases hq2 : arePairsB r.nicks
          · have HQ := Lib.hid (HKB.out (by rw [HE.out, HQ1.out, hq2]; rfl))
            clear hq2
            go_wp2
            go_ret
            exact ⟨ret_int HQ.out.symm, b2'⟩
          · have HQ2 := Lib.hid hq2
            clear hq2
            go_wp2_with fail
            clear g0 g1 g2
            refine (rpairs_any B _ r.streets _ (H3.out.keep (b2'.mono hB)) (Nat.le_trans hB b2'.size) (by omega)).mono ?_
            rintro e w3 ⟨rfl, b3⟩
            have c3 := c2.trans (b3.mono (by have := c2.size; simpa using this))
            have b3' := b0.trans (c3.mono (by omega))
            obtain ⟨g0, g1, g2⟩ := box_cells c3
            cases hq3 : arePairsB r.streets
            · have HQ := Lib.hid (HKB.out (by rw [HE.out, HQ1.out, HQ2.out, hq3]; rfl))
              clear hq3
              go_wp2
              go_ret
              exact ⟨ret_int HQ.out.symm, b3'⟩
            · have HQ3 := Lib.hid hq3
              clear hq3
              clear g0 g1 g2
              go_wp2
              go_loopw [4] (fun i wr2 => ∃ (k : Nat), k ≤ r.nicks.length ∧ i = .int .i64 k ∧ ((r.nicks.drop k).any fun p => hasB r.titles p.2) = makesB r ∧ Below (w.heap.size + 1) (w.alloc (.cells #[.slice ta r.titles.length tc, .slice na r.nicks.length nc, .slice sa r.streets.length sc] 26)) wr2) (fun i _ => r.nicks.length - (intOf i).toNat)
              case atStart => exact ⟨0, by omega, rfl, rfl, c3⟩
              case round =>
                obtain ⟨m, hm, rfl, hacc, hbm⟩ := hrel
                have HA2 := Lib.hid hacc
                clear hacc
                have hbm' : Below w.heap.size w wr := b0.trans (hbm.mono (by omega))
                obtain ⟨g0, g1, g2⟩ := box_cells hbm
                by_cases hlt : m < r.nicks.length
                · obtain ⟨b, o, rfl, hbB, hc⟩ := HNA.out.resolve_left (by intro e; rw [e] at hlt; exact absurd hlt (Nat.not_lt_zero _))
                  have hc' := (hbm'.cell (p := ⟨b, o + m * 2 + 1, none⟩) (by show b < w.heap.size; omega)).trans (hc m hlt).2
                  clear hc
                  have HS := Lib.hid (makes_drop r m hlt)
                  have HT := Lib.hid (H1.out.keep (hbm'.mono hB))
                  go_wp2
                  go_quiet ((go_at_call 66; exact quiet_left (rhas_any B _ r.titles _ _ (HT.out.keep (below_drewN (Below.refl _ _) _)))))
                  clear g0 g1 g2
                  go_wp2
                  · go_ret
                    refine ⟨ret_int (HKB.out ?_).symm, below_drewN hbm' _⟩
                    rw [HE.out, HQ1.out, HQ2.out, HQ3.out, ← HA2.out, HS.out, ‹hasB r.titles r.nicks[m].2 = true›]
                    rfl
                  · refine ⟨⟨m + 1, by omega, by go_num, ?_, below_drewN hbm _⟩, by simp [intOf]; omega⟩
                    rw [← HA2.out, HS.out, ‹hasB r.titles r.nicks[m].2 = false›]
                    rfl
                · go_wp2
                  go_ret
                  refine ⟨ret_int (HKO.out ?_).symm, hbm'⟩
                  rw [HE.out, HQ1.out, HQ2.out, HQ3.out, ← HA2.out, List.drop_eq_nil_of_le (by omega)]
                  rfl
end Go.Proofs.YthplnfblpdojkaaGreatDoor
