/- Walks of the program's touched, ordered and isChange. -/
import Derived.Test.YtgokinfejbefjaaDoorDistApply
namespace Go.Proofs.YtgokinfejbefjaaDoor
open Go.RowKit
set_option maxRecDepth 100000

def touchN (k : Int) : Nat := if k = 2 ∨ k = 3 then 1 else if k = 4 then 2 else 0
theorem touch_le (k : Int) : touchN k ≤ 2 := by unfold touchN; split <;> (try split) <;> omega

set_option maxHeartbeats 400000 in
theorem touched_any (k : Int) (w : World) : Calls Tryd.prog 43 #[.int .i64 k] w fun e w' => e = .returned (.int .i64 (touchN k : Int)) ∧ w = w' := by
  have HT := Lib.hid (show (touchN k : Int) = if k = 2 ∨ k = 3 then 1 else if k = 4 then 2 else 0 by unfold touchN; split <;> (try split) <;> rfl)
  by_cases h2 : k = 2
  · subst h2
    go_enter Tryd.func43, Tryd.ntmps43
    go_wp2
    go_ret
    exact ⟨rfl, rfl⟩
  · have t2 : (k == 2) = false := by simpa using h2
    by_cases h3 : k = 3
    · subst h3
      go_enter Tryd.func43, Tryd.ntmps43
      go_wp2
      go_ret
      exact ⟨rfl, rfl⟩
    · have t3 : (k == 3) = false := by simpa using h3
      by_cases h4 : k = 4
      · subst h4
        go_enter Tryd.func43, Tryd.ntmps43
        go_wp2
        go_ret
        exact ⟨rfl, rfl⟩
      · have t4 : (k == 4) = false := by simpa using h4
        have HT0 := Lib.hid (show (touchN k : Int) = 0 by rw [HT.out, if_neg (by omega), if_neg h4])
        go_enter Tryd.func43, Tryd.ntmps43
        go_wp2
        go_ret
        exact ⟨by rw [HT0.out]; rfl, rfl⟩

theorem quiet_left {P : Program} {f : FuncId} {args : Array Value} {w : World} {n : Nat} {v : Value}
    (h : Calls P f args (w.drewN n) fun e w' => e = .returned v ∧ w.drewN n = w') : Calls P f args (w.drewN n) fun e w'' => e = .returned v ∧ ∃ m, w'' = w.drewN m :=
  h.mono fun _ _ ⟨he, hm⟩ => ⟨he, n, hm.symm⟩
theorem quiet_left1 {P : Program} {f : FuncId} {args : Array Value} {w : World} {n : Nat} {v : Value}
    (h : Calls P f args (w.drewN (1 + n)) fun e w' => e = .returned v ∧ w.drewN (1 + n) = w') : Calls P f args (w.drewN (1 + n)) fun e w'' => e = .returned v ∧ ∃ m, w'' = w.drewN (1 + m) :=
  h.mono fun _ _ ⟨he, hm⟩ => ⟨he, n, hm.symm⟩
set_option maxHeartbeats 2000000 in
theorem isChange_any (c : DM.Ch) (n : Nat) (w : World) (hc : chOk c) (hn : n ≤ 1048576) :
    Calls Tryd.prog 36 #[chV c, .int .i64 n] w fun e w' => e = .returned (.bool (DM.right n c)) ∧ Below w.heap.size w w' := by
  obtain ⟨k, p, y⟩ := c
  unfold chOk at hc
  simp only at hc
  have HR := Lib.hid (show DM.right n (k, p, y) = (if k = 1 then decide (0 ≤ p) && decide (p ≤ n) && decide (0 ≤ y) && decide (y ≤ 255)
    else if k = 3 then decide (0 ≤ p) && decide (p < n) && decide (0 ≤ y) && decide (y ≤ 255)
    else if k = 2 then decide (0 ≤ p) && decide (p < n) && decide (y = 0)
    else if k = 4 then decide (0 ≤ p) && decide (p + 1 < n) && decide (y = 0) else false) from rfl)
  have hT : ∀ W : World, _ := fun W => touched_any k W
  have hl := touch_le k
  have HTd := Lib.hid (show (touchN k : Int) = if k = 2 ∨ k = 3 then 1 else if k = 4 then 2 else 0 by unfold touchN; split <;> (try split) <;> rfl)
  generalize touchN k = Q at *
  unfold chV
  simp only
  have hw1 : IntKind.i64.wrap ((n : Int) - (Q : Int)) = (n : Int) - (Q : Int) := by
    simp [IntKind.wrap, IntKind.bits, IntKind.signed]
    omega
  by_cases h0 : p < 0
  · go_enter Tryd.func36, Tryd.ntmps36
    go_wp2_with fail
    go_quiet ((go_at_call 43; exact quiet_left (hT _)))
    go_wp2
    go_ret
    refine ⟨ret_bool ?_, below_drewN ((Below.refl _ w).alloc (Nat.le_refl _) _) _⟩
    rw [HR.out]
    repeat' split
    all_goals simp
    all_goals omega
  · by_cases h1 : (n : Int) - (Q : Int) < p
    · go_enter Tryd.func36, Tryd.ntmps36
      go_wp2_with fail
      go_quiet ((go_at_call 43; exact quiet_left (hT _)))
      go_wp2
      go_ret
      refine ⟨ret_bool ?_, below_drewN ((Below.refl _ w).alloc (Nat.le_refl _) _) _⟩
      have hq := HTd.out
      rw [HR.out]
      repeat' split
      all_goals simp
      all_goals omega
    · go_enter Tryd.func36, Tryd.ntmps36
      go_wp2_with fail
      go_quiet ((go_at_call 43; exact quiet_left (hT _)))
      go_wp2
      all_goals go_ret
      all_goals refine ⟨ret_bool ?_, below_drewN ((Below.refl _ w).alloc (Nat.le_refl _) _) _⟩
      all_goals have hq := HTd.out
      all_goals rw [HR.out]
      all_goals clear HR HTd hT
      all_goals simp only [beq_iff_eq, beq_eq_false_iff_ne] at *
      all_goals (repeat' split)
      all_goals first
        | omega
        | (rw [Bool.eq_iff_iff]; simp <;> omega)
        | (simp <;> omega)

theorem after_touch (pk pp py qk qp qy : Int) : DM.after (pk, pp, py) (qk, qp, qy) = decide (pp + (touchN pk : Int) ≤ qp) := by
  have h : (touchN pk : Int) = if pk = 2 ∨ pk = 3 then 1 else if pk = 4 then 2 else 0 := by unfold touchN; split <;> (try split) <;> rfl
  rw [h]
  unfold DM.after
  simp only
  split
  · rw [Bool.eq_iff_iff]; simp; omega
  · split
    · rw [Bool.eq_iff_iff]; simp; omega
    · simp

set_option maxHeartbeats 4000000 in
theorem ordered_any (B : Nat) (v : Value) (cs : List DM.Ch) (w : World) (h : IsChs B w v cs) (hB : B ≤ w.heap.size) (hl : cs.length ≤ 1048576) :
    Calls Tryd.prog 35 #[v] w fun e w' => e = .returned (.bool (DM.ord cs)) ∧ Below w.heap.size w w' := by
  by_cases hne : cs = []
  · subst hne
    obtain ⟨a, c, rfl, -⟩ := h
    go_enter Tryd.func35, Tryd.ntmps35
    go_wp2
    go_loop [3] (fun i => i = .int .i64 1) (fun _ => 0)
    case atStart => rfl
    case round =>
      obtain rfl := hrel
      go_wp2
      go_ret
      exact ⟨rfl, Below.refl _ _⟩
  · obtain ⟨b, o, cap, rfl, h1, h2, hbB, hok, hc⟩ := h.at_ hne
    have hpos : 0 < cs.length := List.length_pos_iff.2 hne
    have HC := Lib.hid hc
    have HOK := Lib.hid hok
    clear hc hok h
    unfold maxLen at h2
    go_enter Tryd.func35, Tryd.ntmps35
    go_wp2
    go_loopw [3] (fun i wr => ∃ j : Nat, j < cs.length ∧ i = .int .i64 ((j + 1 : Nat) : Int) ∧ DM.ord (cs.drop j) = DM.ord cs ∧ Below w.heap.size w wr) (fun i _ => cs.length - (intOf i).toNat)
    case atStart => exact ⟨0, hpos, rfl, rfl, Below.refl _ _⟩
    case round =>
      obtain ⟨j, hj, rfl, hord, hbw⟩ := hrel
      have HO := Lib.hid hord
      clear hord
      have hsz := hbw.size
      by_cases hlt : j + 1 < cs.length
      · have hat := ord_at cs j hlt
        rw [HO.out] at hat
        obtain ⟨x0, x1, x2⟩ := HC.out j hj
        obtain ⟨y0, y1, y2⟩ := HC.out (j + 1) hlt
        have hb' : b < w.heap.size := by omega
        have k0 := (hbw.cell (p := ⟨b, _, none⟩) hb').trans x0
        have k1 := (hbw.cell (p := ⟨b, _, none⟩) hb').trans x1
        have k2 := (hbw.cell (p := ⟨b, _, none⟩) hb').trans x2
        have l0 := (hbw.cell (p := ⟨b, _, none⟩) hb').trans y0
        have l1 := (hbw.cell (p := ⟨b, _, none⟩) hb').trans y1
        have l2 := (hbw.cell (p := ⟨b, _, none⟩) hb').trans y2
        have okp := HOK.out cs[j] (List.getElem_mem hj)
        have okq := HOK.out cs[j + 1] (List.getElem_mem hlt)
        clear x0 x1 x2 y0 y1 y2
        generalize hp : cs[j] = P at *
        generalize hq : cs[j + 1] = Q at *
        obtain ⟨pk, pp, py⟩ := P
        obtain ⟨qk, qp, qy⟩ := Q
        unfold chOk at okp okq
        simp only at k0 k1 k2 l0 l1 l2 okp okq
        rw [after_touch] at hat
        have hT := Lib.hid (fun W : World => touched_any pk W)
        have hl2 := touch_le pk
        generalize touchN pk = T at *
        have hwj : IntKind.i64.wrap (j : Int) = (j : Int) := wrap_num _ (by omega) (by omega)
        have i1 : (j : Int) < (cs.length : Int) := by omega
        have i2 : (j : Int) + 1 < (cs.length : Int) := by omega
        have i3 : (0 : Int) ≤ (j : Int) + 1 := by omega
        have HA := Lib.hid hat
        clear hat hp hq
        have k0a := fun (u : Obj) => cell_one (u := u) k0
        have k1a := fun (u : Obj) => cell_one (u := u) k1
        have k2a := fun (u : Obj) => cell_one (u := u) k2
        have l0a := fun (u : Obj) => cell_one (u := u) l0
        have l1a := fun (u : Obj) => cell_one (u := u) l1
        have l2a := fun (u : Obj) => cell_one (u := u) l2
        by_cases hx : qp < pp
        · have hd : decide (qp < pp) = true := by simpa using hx
          go_wp2_with fail
          go_region
          all_goals
            go_wp2_with fail
            go_quiet ((go_at_call 43; exact quiet_left1 (hT.out _)))
            go_wp2
            go_ret
            refine ⟨ret_bool ?_, below_drewN (hbw.alloc hsz _).drew _⟩
            rw [HA.out, decide_eq_false (by omega), Bool.false_and]
        · have u1 : IntKind.u64.wrap (IntKind.u64.wrap qp - IntKind.u64.wrap pp) = qp - pp := by
            simp [IntKind.wrap, IntKind.bits, IntKind.signed]
            omega
          have u2 : IntKind.u64.wrap (T : Int) = (T : Int) := by
            simp [IntKind.wrap, IntKind.bits, IntKind.signed]
            omega
          by_cases hy : qp - pp < (T : Int)
          · go_wp2_with fail
            go_region
            all_goals
              go_wp2_with fail
              have hn : ¬ (qp < pp) := by omega
              go_quiet ((go_at_call 43; exact quiet_left1 (hT.out _)))
              go_wp2
              go_ret
              refine ⟨ret_bool ?_, below_drewN (hbw.alloc hsz _) _⟩
              rw [HA.out, decide_eq_false (by omega), Bool.false_and]
          · go_wp2_with fail
            go_region
            all_goals
              go_wp2_with fail
              have hn : ¬ (qp < pp) := by omega
              go_quiet ((go_at_call 43; exact quiet_left1 (hT.out _)))
              go_wp2
              refine ⟨⟨j + 1, hlt, by go_num, ?_, below_drewN (hbw.alloc hsz _) _⟩, by simp [intOf]; omega⟩
              rw [HA.out, decide_eq_true (by omega), Bool.true_and]
      · have he := ord_end cs j (by omega)
        rw [HO.out] at he
        have HE := Lib.hid he
        clear he
        go_wp2
        go_ret
        exact ⟨ret_bool HE.out.symm, hbw⟩
end Go.Proofs.YtgokinfejbefjaaDoor
