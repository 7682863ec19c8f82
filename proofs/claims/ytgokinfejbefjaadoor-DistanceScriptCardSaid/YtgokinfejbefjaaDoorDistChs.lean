/- A slice of changes, and the walks of the reference's ordered, right and Same. -/
import Derived.Test.YtgokinfejbefjaaDoorDistEdit
import Derived.BigRegion
namespace Go.Proofs.YtgokinfejbefjaaDoor
open Go.RowKit
set_option maxRecDepth 100000

/-- A change as a value. -/
def chV (c : DM.Ch) : Value := .agg #[.int .i64 c.1, .int .i64 c.2.1, .int .i64 c.2.2]
def chOk (c : DM.Ch) : Prop := (-9223372036854775808 ≤ c.1 ∧ c.1 ≤ 9223372036854775807) ∧ (-9223372036854775808 ≤ c.2.1 ∧ c.2.1 ≤ 9223372036854775807) ∧ (-9223372036854775808 ≤ c.2.2 ∧ c.2.2 ≤ 9223372036854775807)
/-- A slice value that reads as a list of changes; all its cells lie below block B. -/
def IsChs (B : Nat) (w : World) (v : Value) (cs : List DM.Ch) : Prop :=
  ∃ (a : Option Addr) (c : Nat), v = .slice a cs.length c ∧ cs.length ≤ c ∧ c ≤ maxLen ∧ (∀ x ∈ cs, chOk x) ∧ (cs = [] ∨ ∃ b o, a = some ⟨b, o, none⟩ ∧ b < B ∧ ∀ j x, cs[j]? = some x →
    w.cell? ⟨b, o + j * 3, none⟩ = some (.int .i64 x.1) ∧ w.cell? ⟨b, o + j * 3 + 1, none⟩ = some (.int .i64 x.2.1) ∧ w.cell? ⟨b, o + j * 3 + 2, none⟩ = some (.int .i64 x.2.2))
theorem IsChs.keep {B : Nat} {w w' : World} {v : Value} {cs : List DM.Ch} (h : IsChs B w v cs) (hb : Below B w w') : IsChs B w' v cs := by
  obtain ⟨a, c, hv, h1, h2, h4, h3⟩ := h
  refine ⟨a, c, hv, h1, h2, h4, ?_⟩
  rcases h3 with h3 | ⟨b, o, ha, hlt, hc⟩
  · exact .inl h3
  · refine .inr ⟨b, o, ha, hlt, fun j x hx => ?_⟩
    obtain ⟨c0, c1, c2⟩ := hc j x hx
    exact ⟨(hb.cell (p := ⟨b, _, none⟩) hlt).trans c0, (hb.cell (p := ⟨b, _, none⟩) hlt).trans c1, (hb.cell (p := ⟨b, _, none⟩) hlt).trans c2⟩
theorem IsChs.more {B B' : Nat} {w : World} {v : Value} {cs : List DM.Ch} (h : IsChs B w v cs) (hb : B ≤ B') : IsChs B' w v cs := by
  obtain ⟨a, c, hv, h1, h2, h4, h3⟩ := h
  refine ⟨a, c, hv, h1, h2, h4, ?_⟩
  rcases h3 with h3 | ⟨b, o, ha, hlt, hc⟩
  · exact .inl h3
  · exact .inr ⟨b, o, ha, by omega, hc⟩
theorem IsChs.at_ {B : Nat} {w : World} {v : Value} {cs : List DM.Ch} (h : IsChs B w v cs) (hne : cs ≠ []) : ∃ b o c, v = .slice (some ⟨b, o, none⟩) cs.length c ∧ cs.length ≤ c ∧ c ≤ maxLen ∧ b < B ∧ (∀ x ∈ cs, chOk x) ∧ ∀ k, ∀ hk : k < cs.length,
    w.cell? ⟨b, o + k * 3, none⟩ = some (.int .i64 cs[k].1) ∧ w.cell? ⟨b, o + k * 3 + 1, none⟩ = some (.int .i64 cs[k].2.1) ∧ w.cell? ⟨b, o + k * 3 + 2, none⟩ = some (.int .i64 cs[k].2.2) := by
  obtain ⟨a, c, hv, h1, h2, h4, h3⟩ := h
  rcases h3 with h3 | ⟨b, o, ha, hlt, hc⟩
  · exact absurd h3 hne
  · subst ha
    exact ⟨b, o, c, hv, h1, h2, hlt, h4, fun k hk => hc k _ (List.getElem?_eq_getElem hk)⟩

set_option maxHeartbeats 2000000 in
theorem rright_any (c : DM.Ch) (n : Nat) (w : World) (hc : chOk c) (hn : n ≤ 1048576) :
    Calls Tryd.prog 39 #[chV c, .int .i64 n] w fun e w' => e = .returned (.bool (DM.right n c)) ∧ Below w.heap.size w w' := by
  obtain ⟨k, p, y⟩ := c
  unfold chOk at hc
  simp only at hc
  have HR := Lib.hid (show DM.right n (k, p, y) = (if k = 1 then decide (0 ≤ p) && decide (p ≤ n) && decide (0 ≤ y) && decide (y ≤ 255)
    else if k = 3 then decide (0 ≤ p) && decide (p < n) && decide (0 ≤ y) && decide (y ≤ 255)
    else if k = 2 then decide (0 ≤ p) && decide (p < n) && decide (y = 0)
    else if k = 4 then decide (0 ≤ p) && decide (p + 1 < n) && decide (y = 0) else false) from rfl)
  unfold chV
  simp only
  go_enter Tryd.func39, Tryd.ntmps39
  go_wp2
  all_goals go_ret
  all_goals refine ⟨ret_bool ?_, (Below.refl _ w).alloc (Nat.le_refl _) _⟩
  all_goals rw [HR.out]
  all_goals clear HR
  all_goals simp only [beq_iff_eq, beq_eq_false_iff_ne] at *
  all_goals (repeat' split)
  all_goals first
    | omega
    | (rw [Bool.eq_iff_iff]; simp <;> omega)
    | (simp <;> omega)

theorem ord_at (cs : List DM.Ch) (j : Nat) (h : j + 1 < cs.length) : DM.ord (cs.drop j) = (DM.after (cs[j]'(by omega)) cs[j + 1] && DM.ord (cs.drop (j + 1))) := by
  rw [List.drop_eq_getElem_cons (show j < cs.length by omega), List.drop_eq_getElem_cons h, DM.ord]
theorem ord_end (cs : List DM.Ch) (j : Nat) (h : cs.length ≤ j + 1) : DM.ord (cs.drop j) = true := by
  by_cases e : j < cs.length
  · rw [List.drop_eq_getElem_cons e, List.drop_eq_nil_of_le (by omega)]
    rfl
  · rw [List.drop_eq_nil_of_le (by omega)]
    rfl

theorem cell_one {w : World} {u : Obj} {b o : Nat} {v : Value} (h : w.cell? ⟨b, o, none⟩ = some v) : (w.alloc u).cell? ⟨b, o, none⟩ = some v :=
  (World.cell?_of_block (a := ⟨b, o, none⟩) (w := w) (w' := w.alloc u) (Below.heap_alloc w u b (World.block_lt_of_cell? _ _ h))).trans h
theorem cell_two {w : World} {u u' : Obj} {b o : Nat} {v : Value} (h : w.cell? ⟨b, o, none⟩ = some v) : ((w.alloc u).alloc u').cell? ⟨b, o, none⟩ = some v := cell_one (cell_one h)

theorem after_yes {pk pp py qk qp qy : Int} (h : ((pk = 2 ∨ pk = 3) ∧ pp < qp) ∨ (¬ pk = 2 ∧ ¬ pk = 3 ∧ pk = 4 ∧ pp + 1 < qp) ∨ (¬ pk = 2 ∧ ¬ pk = 3 ∧ ¬ pk = 4 ∧ pp ≤ qp)) : DM.after (pk, pp, py) (qk, qp, qy) = true := by
  unfold DM.after
  simp only
  split
  · simp; omega
  · split
    · simp; omega
    · simp; omega
theorem after_no {pk pp py qk qp qy : Int} (h : ((pk = 2 ∨ pk = 3) ∧ qp ≤ pp) ∨ (¬ pk = 2 ∧ ¬ pk = 3 ∧ pk = 4 ∧ qp ≤ pp + 1) ∨ (¬ pk = 2 ∧ ¬ pk = 3 ∧ ¬ pk = 4 ∧ qp < pp)) : DM.after (pk, pp, py) (qk, qp, qy) = false := by
  unfold DM.after
  simp only
  split
  · simp; omega
  · split
    · simp; omega
    · simp; omega

set_option maxHeartbeats 4000000 in
theorem rordered_any (B : Nat) (v : Value) (cs : List DM.Ch) (w : World) (h : IsChs B w v cs) (hB : B ≤ w.heap.size) (hl : cs.length ≤ 1048576) :
    Calls Tryd.prog 38 #[v] w fun e w' => e = .returned (.bool (DM.ord cs)) ∧ Below w.heap.size w w' := by
  by_cases hne : cs = []
  · subst hne
    obtain ⟨a, c, rfl, -⟩ := h
    go_enter Tryd.func38, Tryd.ntmps38
    go_wp2
    go_loop [3] (fun i => i = .int .i64 1) (fun _ => 0)
    case atStart => rfl
    case round =>
      obtain rfl := hrel
      go_wp2
      go_ret
      exact ⟨rfl, Below.refl _ _⟩
  · obtain ⟨b, o, cap, rfl, h1, h2, hbB, hok, hc⟩ := h.at_ hne
    have hpos : 0 < cs.length := List.length_pos_iff.2 hne
    have HC := Lib.hid hc
    have HOK := Lib.hid hok
    clear hc hok h
    unfold maxLen at h2
    go_enter Tryd.func38, Tryd.ntmps38
    go_wp2
    go_loopw [3] (fun i wr => ∃ j : Nat, j < cs.length ∧ i = .int .i64 ((j + 1 : Nat) : Int) ∧ DM.ord (cs.drop j) = DM.ord cs ∧ Below w.heap.size w wr) (fun i _ => cs.length - (intOf i).toNat)
    case atStart => exact ⟨0, hpos, rfl, rfl, Below.refl _ _⟩
    case round =>
      obtain ⟨j, hj, rfl, hord, hbw⟩ := hrel
      have HO := Lib.hid hord
      clear hord
      have hsz := hbw.size
      by_cases hlt : j + 1 < cs.length
      · have hat := ord_at cs j hlt
        rw [HO.out] at hat
        obtain ⟨x0, x1, x2⟩ := HC.out j hj
        obtain ⟨y0, y1, y2⟩ := HC.out (j + 1) hlt
        have hb' : b < w.heap.size := by omega
        have k0 := (hbw.cell (p := ⟨b, _, none⟩) hb').trans x0
        have k1 := (hbw.cell (p := ⟨b, _, none⟩) hb').trans x1
        have k2 := (hbw.cell (p := ⟨b, _, none⟩) hb').trans x2
        have l0 := (hbw.cell (p := ⟨b, _, none⟩) hb').trans y0
        have l1 := (hbw.cell (p := ⟨b, _, none⟩) hb').trans y1
        have l2 := (hbw.cell (p := ⟨b, _, none⟩) hb').trans y2
        have okp := HOK.out cs[j] (List.getElem_mem hj)
        have okq := HOK.out cs[j + 1] (List.getElem_mem hlt)
        clear x0 x1 x2 y0 y1 y2
        generalize hp : cs[j] = P at *
        generalize hq : cs[j + 1] = Q at *
        obtain ⟨pk, pp, py⟩ := P
        obtain ⟨qk, qp, qy⟩ := Q
        unfold chOk at okp okq
        simp only at k0 k1 k2 l0 l1 l2 okp okq
        have hwj : IntKind.i64.wrap (j : Int) = (j : Int) := wrap_num _ (by omega) (by omega)
        have i1 : (j : Int) < (cs.length : Int) := by omega
        have i2 : (j : Int) + 1 < (cs.length : Int) := by omega
        have i3 : (0 : Int) ≤ (j : Int) + 1 := by omega
        have HA := Lib.hid hat
        clear hat hp hq
        have k0a := fun (u : Obj) => cell_one (u := u) k0
        have k0b := fun (u u' : Obj) => cell_two (u := u) (u' := u') k0
        have k1a := fun (u : Obj) => cell_one (u := u) k1
        have k1b := fun (u u' : Obj) => cell_two (u := u) (u' := u') k1
        have k2a := fun (u : Obj) => cell_one (u := u) k2
        have k2b := fun (u u' : Obj) => cell_two (u := u) (u' := u') k2
        have l0a := fun (u : Obj) => cell_one (u := u) l0
        have l0b := fun (u u' : Obj) => cell_two (u := u) (u' := u') l0
        have l1a := fun (u : Obj) => cell_one (u := u) l1
        have l1b := fun (u u' : Obj) => cell_two (u := u) (u' := u') l1
        have l2a := fun (u : Obj) => cell_one (u := u) l2
        have l2b := fun (u u' : Obj) => cell_two (u := u) (u' := u') l2
        go_wp2_with fail
        go_region
        all_goals
          go_wp2
        all_goals clear k0a k1a k2a l0a l1a l2a k0b k1b k2b l0b l1b l2b
        all_goals try simp only [beq_iff_eq, beq_eq_false_iff_ne, ne_eq] at *
        all_goals first
          | (refine ⟨⟨j + 1, hlt, by go_num, ?_, below_drewN ((hbw.alloc hsz _).alloc (by simp; omega) _) 1⟩, by simp [intOf]; omega⟩
             rw [HA.out, after_yes (by omega), Bool.true_and])
          | (go_ret
             refine ⟨ret_bool ?_, below_drewN ((hbw.alloc hsz _).alloc (by simp; omega) _) 1⟩
             rw [HA.out, after_no (by omega), Bool.false_and])
      · have he := ord_end cs j (by omega)
        rw [HO.out] at he
        have HE := Lib.hid he
        clear he
        go_wp2
        go_ret
        exact ⟨ret_bool HE.out.symm, hbw⟩
end Go.Proofs.YtgokinfejbefjaaDoor
