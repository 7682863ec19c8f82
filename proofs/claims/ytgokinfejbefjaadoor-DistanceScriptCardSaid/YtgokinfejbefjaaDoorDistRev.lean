/- The walk of the library's slices.Reverse over a slice of changes of the caller's own. -/
import Derived.Test.YtgokinfejbefjaaDoorDistScr
namespace Go.Proofs.YtgokinfejbefjaaDoor
open Go.RowKit
set_option maxRecDepth 100000

theorem chCells_get (l : List DM.Ch) : ∀ (q : Nat) (x : DM.Ch), l[q]? = some x → (chCells l)[q * 3]? = some (.int .i64 x.1) ∧ (chCells l)[q * 3 + 1]? = some (.int .i64 x.2.1) ∧ (chCells l)[q * 3 + 2]? = some (.int .i64 x.2.2) := by
  induction l with
  | nil => intro q x h; simp at h
  | cons c l ih =>
    intro q x h
    have e : chCells (c :: l) = .int .i64 c.1 :: .int .i64 c.2.1 :: .int .i64 c.2.2 :: chCells l := by rw [chCells, List.flatMap_cons]; rfl
    rw [e]
    cases q with
    | zero =>
      simp at h
      subst h
      exact ⟨rfl, rfl, rfl⟩
    | succ q =>
      have := ih q x (by simpa using h)
      rw [show (q + 1) * 3 = q * 3 + 1 + 1 + 1 from by omega]
      exact ⟨by simpa using this.1, by simpa using this.2.1, by simpa using this.2.2⟩
theorem chCells_set (l : List DM.Ch) (c : DM.Ch) : ∀ q, q < l.length → chCells (l.set q c) = (((chCells l).set (q * 3) (.int .i64 c.1)).set (q * 3 + 1) (.int .i64 c.2.1)).set (q * 3 + 2) (.int .i64 c.2.2) := by
  induction l with
  | nil => intro q h; simp at h
  | cons d l ih =>
    intro q h
    have e : ∀ (d : DM.Ch) (l : List DM.Ch), chCells (d :: l) = .int .i64 d.1 :: .int .i64 d.2.1 :: .int .i64 d.2.2 :: chCells l := fun d l => by rw [chCells, List.flatMap_cons]; rfl
    cases q with
    | zero => rw [List.set_cons_zero, e, e]; rfl
    | succ q =>
      rw [List.set_cons_succ, e, e, ih q (by simpa using h), show (q + 1) * 3 = q * 3 + 1 + 1 + 1 from by omega]
      rfl
theorem OwnsCh.cell3 {base : Nat} {w : World} {g cap n : Nat} {l : List DM.Ch} (h : OwnsCh base w (.slice (some ⟨g, 0, none⟩) n cap) l) (q : Nat) (hq : q < l.length) :
    w.cell? ⟨g, q * 3, none⟩ = some (.int .i64 l[q].1) ∧ w.cell? ⟨g, q * 3 + 1, none⟩ = some (.int .i64 l[q].2.1) ∧ w.cell? ⟨g, q * 3 + 2, none⟩ = some (.int .i64 l[q].2.2) := by
  obtain ⟨h0, h1, h2⟩ := chCells_get l q l[q] (List.getElem?_eq_getElem hq)
  have key : ∀ j u, (chCells l)[j]? = some u → w.cell? ⟨g, j, none⟩ = some u := by
    intro j u hu
    have hcell := World.ownsRow.cells h (g := g) rfl j u hu
    have hp : ((⟨g, 0, none⟩ : Addr).add j) = ⟨g, j, none⟩ := by unfold Addr.add; split <;> simp_all
    rwa [hp] at hcell
  exact ⟨key _ _ h0, key _ _ h1, key _ _ h2⟩
theorem OwnsCh.num {base : Nat} {w : World} {a : Option Addr} {cap n : Nat} {l : List DM.Ch} (h : OwnsCh base w (.slice a n cap) l) : n = l.length := by
  rcases h.2 with ⟨hv, h0⟩ | ⟨g, c, cur, hv, -⟩
  · simp only [Value.slice.injEq] at hv
    omega
  · simp only [Value.slice.injEq] at hv
    exact hv.2.1
theorem OwnsCh.fro {base : Nat} {w : World} {g cap n : Nat} {l : List DM.Ch} (h : OwnsCh base w (.slice (some ⟨g, 0, none⟩) n cap) l) (j : Nat) : w.frozen? ⟨g, j, none⟩ = false := by
  obtain rfl := h.num
  exact World.ownsRow.frozenAt h j
theorem OwnsCh.drew {base : Nat} {w : World} {v : Value} {l : List DM.Ch} (h : OwnsCh base w v l) : OwnsCh base w.drew v l := h
theorem OwnsCh.put3 {base : Nat} {w : World} {g cap n : Nat} {l : List DM.Ch} (h : OwnsCh base w (.slice (some ⟨g, 0, none⟩) n cap) l) (q : Nat) (hq : q < l.length) (c : DM.Ch) :
    OwnsCh base (((w.setCell ⟨g, q * 3, none⟩ (.int .i64 c.1)).setCell ⟨g, q * 3 + 1, none⟩ (.int .i64 c.2.1)).setCell ⟨g, q * 3 + 2, none⟩ (.int .i64 c.2.2)) (.slice (some ⟨g, 0, none⟩) n cap) (l.set q c) := by
  obtain rfl := h.num
  unfold OwnsCh at h ⊢
  rw [chCells_set l c q hq, List.length_set]
  exact (World.ownsRow.stored (World.ownsRow.stored (World.ownsRow.stored h (q * 3) _).1 (q * 3 + 1) _).1 (q * 3 + 2) _).1

/-- The first k and the last k have changed places. -/
structure PartRev (cs : List DM.Ch) (k : Nat) (l : List DM.Ch) : Prop where
  len : l.length = cs.length
  at_ : ∀ q, q < cs.length → l[q]? = if q < k ∨ cs.length - k ≤ q then cs[cs.length - 1 - q]? else cs[q]?
theorem PartRev.start (cs : List DM.Ch) : PartRev cs 0 cs := ⟨rfl, fun q hq => by rw [if_neg (by omega)]⟩
theorem PartRev.step {cs l : List DM.Ch} {k J : Nat} (h : PartRev cs k l) (hJ : k + J + 1 = cs.length) (hk : k < J) (x y : DM.Ch) (hx : l[k]? = some x) (hy : l[J]? = some y) : PartRev cs (k + 1) ((l.set k y).set J x) where
  len := by rw [List.length_set, List.length_set, h.len]
  at_ q hq := by
    have hl := h.len
    have h1 := h.at_ k (by omega)
    have h2 := h.at_ J (by omega)
    rw [if_neg (by omega), hx] at h1
    rw [if_neg (by omega), hy] at h2
    rw [List.getElem?_set, List.length_set]
    by_cases e : J = q
    · subst e
      rw [if_pos rfl, if_pos (by omega), if_pos (by omega), h1]
      congr 1
      omega
    · rw [if_neg e, List.getElem?_set]
      by_cases e2 : k = q
      · subst e2
        rw [if_pos rfl, if_pos (by omega), if_pos (by omega), h2]
        congr 1
        omega
      · rw [if_neg e2, h.at_ q hq]
        by_cases e3 : q < k ∨ cs.length - k ≤ q
        · rw [if_pos e3, if_pos (by omega)]
        · rw [if_neg e3, if_neg (by omega)]
theorem PartRev.done {cs l : List DM.Ch} {k J : Nat} (h : PartRev cs k l) (hJ : k + J + 1 = cs.length) (hk : ¬ k < J) : l = cs.reverse := by
  apply List.ext_getElem?
  intro q
  have hl := h.len
  by_cases hq : q < cs.length
  · rw [h.at_ q hq, List.getElem?_reverse hq]
    by_cases e3 : q < k ∨ cs.length - k ≤ q
    · rw [if_pos e3]
    · rw [if_neg e3]
      congr 1
      omega
  · rw [List.getElem?_eq_none (by omega), List.getElem?_eq_none (by rw [List.length_reverse]; omega)]

set_option maxHeartbeats 4000000 in
theorem Reverse_any (base : Nat) (v : Value) (cs : List DM.Ch) (w : World) (h : OwnsCh base w v cs) (hl : cs.length ≤ 1000) :
    Calls Tryd.prog 34 #[v] w fun e w' => (∃ u, e = .returned u) ∧ OwnsCh base w' v cs.reverse ∧ Below base w w' := by
  rcases h.2 with ⟨rfl, h0⟩ | ⟨g, cap, cur, rfl, hbg, hg, hnc, hcm, hcs, htake⟩
  · obtain rfl := List.eq_nil_of_length_eq_zero h0
    have HO := Lib.hid h
    clear h
    go_enter Tryd.func34, Tryd.ntmps34
    go_wp2
    go_loop [2, 3] (fun i j => i = .int .i64 0 ∧ j = .int .i64 (-1)) (fun _ _ => 0)
    case atStart => exact ⟨rfl, rfl⟩
    case round =>
      obtain ⟨rfl, rfl⟩ := hrel
      go_wp2
      go_end0
      exact ⟨⟨_, rfl⟩, HO.out, Below.refl _ _⟩
  · by_cases hne : cs.length = 0
    · obtain rfl := List.eq_nil_of_length_eq_zero hne
      have HO := Lib.hid h
      clear h hg hcs htake hnc hne
      go_enter Tryd.func34, Tryd.ntmps34
      go_wp2
      go_loop [2, 3] (fun i j => i = .int .i64 0 ∧ j = .int .i64 (-1)) (fun _ _ => 0)
      case atStart => exact ⟨rfl, rfl⟩
      case round =>
        obtain ⟨rfl, rfl⟩ := hrel
        go_wp2
        go_end0
        exact ⟨⟨_, rfl⟩, HO.out, Below.refl _ _⟩
    · obtain ⟨J0, hJ0⟩ : ∃ J, cs.length = J + 1 := ⟨cs.length - 1, by omega⟩
      have HO := Lib.hid h
      have HBG := Lib.hid hbg
      clear h hg hcs htake
      have hw0 : IntKind.i64.wrap (J0 : Int) = (J0 : Int) := wrap_num _ (by omega) (by omega)
      rw [hJ0]
      rw [hJ0] at HO hnc
      go_enter Tryd.func34, Tryd.ntmps34
      go_wp2
      go_loopw [2, 3] (fun iv jv wr => ∃ (k J : Nat) (l : List DM.Ch), k + J + 1 = cs.length ∧ iv = .int .i64 k ∧ jv = .int .i64 J ∧ PartRev cs k l ∧ OwnsCh base wr (.slice (some ⟨g, 0, none⟩) (J0 + 1) cap) l ∧ Below base w wr) (fun _ jv _ => (intOf jv).toNat)
      case atStart => exact ⟨0, J0, cs, by omega, rfl, rfl, PartRev.start cs, HO.out, Below.refl _ _⟩
      case round =>
        obtain ⟨k, J, l, hkJ, rfl, rfl, hp, hown, hbw⟩ := hrel
        have HP := Lib.hid hp
        have HW := Lib.hid hown
        have hll := hp.len
        by_cases hlt : k < J
        · obtain ⟨J, rfl⟩ : ∃ J', J = J' + 1 := ⟨J - 1, by omega⟩
          obtain ⟨a0, a1, a2⟩ := hown.cell3 k (by omega)
          obtain ⟨b0, b1, b2⟩ := hown.cell3 (J + 1) (by omega)
          have hx : l[k]? = some l[k] := List.getElem?_eq_getElem (by omega)
          have hy : l[J + 1]? = some l[J + 1] := List.getElem?_eq_getElem (by omega)
          have HX := Lib.hid hx
          have HY := Lib.hid hy
          have fz := fun q => hown.fro q
          clear hx hy hp hown
          generalize l[k] = X at *
          generalize l[J + 1] = Y at *
          obtain ⟨xk, xp, xy⟩ := X
          obtain ⟨yk, yp, yy⟩ := Y
          simp only at a0 a1 a2 b0 b1 b2
          have i1 : (k : Int) < (J : Int) + 1 := by omega
          have i2 : (k : Int) < (J0 : Int) + 1 := by omega
          have i3 : (J : Int) + 1 < (J0 : Int) + 1 := by omega
          have i4 : (0 : Int) ≤ (J : Int) + 1 := by omega
          have i5 : IntKind.i64.wrap (J : Int) = (J : Int) := wrap_num _ (by omega) (by omega)
          have HZ := Lib.hid (show OwnsCh base ((((((wr.setCell ⟨g, k * 3, none⟩ (.int .i64 yk)).setCell ⟨g, k * 3 + 1, none⟩ (.int .i64 yp)).setCell ⟨g, k * 3 + 2, none⟩ (.int .i64 yy)).setCell ⟨g, (J + 1) * 3, none⟩ (.int .i64 xk)).setCell ⟨g, (J + 1) * 3 + 1, none⟩ (.int .i64 xp)).setCell ⟨g, (J + 1) * 3 + 2, none⟩ (.int .i64 xy)) (.slice (some ⟨g, 0, none⟩) (J0 + 1) cap) ((l.set k (yk, yp, yy)).set (J + 1) (xk, xp, xy)) from
            OwnsCh.put3 (OwnsCh.put3 HW.out k (by omega) (yk, yp, yy)) (J + 1) (by rw [List.length_set]; omega) (xk, xp, xy))
          have HBZ := Lib.hid (show Below base w ((((((wr.setCell ⟨g, k * 3, none⟩ (.int .i64 yk)).setCell ⟨g, k * 3 + 1, none⟩ (.int .i64 yp)).setCell ⟨g, k * 3 + 2, none⟩ (.int .i64 yy)).setCell ⟨g, (J + 1) * 3, none⟩ (.int .i64 xk)).setCell ⟨g, (J + 1) * 3 + 1, none⟩ (.int .i64 xp)).setCell ⟨g, (J + 1) * 3 + 2, none⟩ (.int .i64 xy)) from
            ((((((hbw.setCell (p := ⟨g, k * 3, none⟩) HBG.out _).setCell (p := ⟨g, k * 3 + 1, none⟩) HBG.out _).setCell (p := ⟨g, k * 3 + 2, none⟩) HBG.out _).setCell (p := ⟨g, (J + 1) * 3, none⟩) HBG.out _).setCell (p := ⟨g, (J + 1) * 3 + 1, none⟩) HBG.out _).setCell (p := ⟨g, (J + 1) * 3 + 2, none⟩) HBG.out _))
          go_wp2_with fail
          go_region
          all_goals
            go_wp2
            exact ⟨⟨k + 1, J, _, by omega, by go_num, rfl, HP.out.step (by omega) hlt (xk, xp, xy) (yk, yp, yy) HX.out HY.out, HZ.out.drew, HBZ.out.drew⟩, by simp [intOf]⟩
        · have hfin := hp.done hkJ hlt
          have HW2 := Lib.hid hown
          rw [hfin] at HW2
          clear hp hown hfin
          have hlt' : ¬ (k : Int) < (J : Int) := by omega
          go_wp2
          go_end0
          exact ⟨⟨_, rfl⟩, HW2.out, hbw⟩
end Go.Proofs.YtgokinfejbefjaaDoor
