/- Rules in which something may be wrong, as a deck deals them. -/
import Derived.Test.YthplnfblpdojkaaGreatDoorNameLaws2
import Derived.Laws.AppendOwnNone
import Derived.Deep.RegionLaw
import Derived.Deep.Cut
namespace Go.Proofs.YthplnfblpdojkaaGreatDoor
open Go.RowKit
set_option linter.unusedVariables false
set_option maxRecDepth 100000

theorem pairInfo : (Tryz.prog.info? 46).map (fun i => (i.zero, i.size, i.bytes)) = some (some (.agg #[.string ⟨#[]⟩, .string ⟨#[]⟩]), 2, 32) := by kernel_rfl
theorem proper_own {base n k : Nat} {T : TypeId} {w : World} {v : Value} {cs : List Value} (h : w.ownsRow base T k v n cs) : Proper v := by
  rcases h.2 with ⟨rfl, -⟩ | ⟨g, cap, cur, rfl, -⟩
  · exact proper_nil
  · exact proper_some _ _ _
theorem pairCells_len (ps : List (ByteArray × ByteArray)) : (pairCells ps).length = ps.length * 2 := by
  unfold pairCells
  induction ps with
  | nil => rfl
  | cons a t ih => rw [List.flatMap_cons, List.length_append, ih, List.length_cons]; simp; omega
theorem pairCells_at : ∀ (ps : List (ByteArray × ByteArray)) (j : Nat) (hj : j < ps.length), (pairCells ps)[j * 2]? = some (.string ps[j].1) ∧ (pairCells ps)[j * 2 + 1]? = some (.string ps[j].2) := by
  intro ps
  induction ps with
  | nil => intro j hj; simp at hj
  | cons a t ih =>
    intro j hj
    cases j with
    | zero => exact ⟨rfl, rfl⟩
    | succ k =>
      have := ih k (by simpa using hj)
      have e1 : (k + 1) * 2 = k * 2 + 1 + 1 := by omega
      rw [e1]
      exact this
theorem pairCells_append (a b : List (ByteArray × ByteArray)) : pairCells (a ++ b) = pairCells a ++ pairCells b := by unfold pairCells; simp
theorem IsPairs.of_own {base : Nat} {w : World} {v : Value} {ps : List (ByteArray × ByteArray)} (h : w.ownsRow base 46 2 v ps.length (pairCells ps)) : IsPairs w.heap.size w v ps := by
  rcases h.2 with ⟨hv, h0⟩ | ⟨g, cap, cur, hv, hbg, hg, hnc, hcm, hcs, htake⟩
  · have : ps = [] := List.eq_nil_of_length_eq_zero h0
    subst this
    exact ⟨none, 0, hv, by simp, by simp [maxLen], .inl rfl⟩
  · refine ⟨_, cap, hv, hnc, hcm, .inr ⟨g, 0, rfl, (Array.getElem?_eq_some_iff.1 hg).1, fun j hj => ?_⟩⟩
    have k : ∀ i u, (pairCells ps)[i]? = some u → w.cell? ⟨g, 0 + i, none⟩ = some u := fun i u hu => by
      have := h.cells (g := g) (by rw [hv]; rfl) i u hu
      rw [← this]
      unfold Addr.add
      split <;> simp_all
    obtain ⟨h1, h2⟩ := pairCells_at ps j hj
    exact ⟨k _ _ h1, k _ _ h2⟩

theorem addr_add (b off j : Nat) : (⟨b, off, none⟩ : Addr).add j = ⟨b, off + j, none⟩ := by unfold Addr.add; split <;> simp_all
theorem wpList_append_texts {ops : Array Oper} {rest : List Oper} {o : Oper} {a : Act} {Q : Exit → Act → World → Prop} {w : World} (hgd : o.guard = none) (s x : Operand)
    (ho : o.op = .call { callee := .builtin .append, args := #[s, x], argTypes := #[23, 23] }) (base : Nat) (hbase : base ≤ w.heap.size)
    (v : Value) (ys : List ByteArray) (hs : a.eval s = v) (hown : w.ownsRow base 9 1 v ys.length (ys.map Value.string))
    (B : Nat) (xv : Value) (xs : List ByteArray) (hx : a.eval x = xv) (hX : IsTexts B w xv xs) (hP : Proper xv) (hlen : ys.length + xs.length ≤ 1000)
    (h : ∀ v' w', w'.ownsRow base 9 1 v' (ys ++ xs).length ((ys ++ xs).map Value.string) → w.grownBy w' v.ownBlock → wpList Tryz.prog ops Q rest (a.put o.dst v') w') : wpList Tryz.prog ops Q (o :: rest) a w := by
  obtain ⟨i0, hi0, hz0, hz1, hz2⟩ := info_parts strInfo
  by_cases hn : ∃ n c, xv = .slice none n c
  · obtain ⟨n, c, rfl⟩ := hn
    obtain ⟨rfl, rfl⟩ := hP n c rfl
    obtain ⟨a', c', hv, -, -, -⟩ := hX
    have h0 : xs = [] := by
      simp only [Value.slice.injEq] at hv
      exact List.eq_nil_of_length_eq_zero hv.2.1.symm
    subst h0
    refine wpList_append_own_none hgd s x 23 ho base 9 i0 1 Tryz.underlying23 hi0 v ys.length (ys.map Value.string) hs hown hx ?_
    exact h v w (by simpa using hown) (grown_refl w _)
  · obtain ⟨ad, c, rfl, h1, h2, h3⟩ := hX
    cases ad with
    | none => exact absurd ⟨_, _, rfl⟩ hn
    | some ad =>
      refine wpList_append_own w hgd s x 23 ho base 9 i0 (.string ⟨#[]⟩) 1 16 Tryz.underlying23 hi0 hz0 hz1 hz2 rfl (by decide) v ys.length (ys.map Value.string) hs hown ad xs.length c (xs.map Value.string) hx (by simp) ?_ (fun u hu => by
        obtain ⟨y, _, rfl⟩ := List.mem_map.1 hu; rfl) (by unfold maxLen; omega) (by omega) hbase ?_
      · intro j u hj
        rcases h3 with rfl | ⟨b, off, ha, -, hc⟩
        · simp at hj
        · obtain rfl : ad = ⟨b, off, none⟩ := by simpa using ha
          rw [List.getElem?_map] at hj
          obtain ⟨y, hy, rfl⟩ := Option.map_eq_some_iff.1 hj
          rw [addr_add]
          exact hc j y hy
      · intro v' w' hown' hgrow _
        exact h v' w' (by simpa using hown') hgrow

theorem wp_append_texts {o : Oper} {a : Act} {K : Act → World → Prop} {Q : Exit → Act → World → Prop} {w : World} (s x : Operand)
    (ho : o.op = .call { callee := .builtin .append, args := #[s, x], argTypes := #[23, 23] }) (base : Nat) (hbase : base ≤ w.heap.size)
    (v : Value) (ys : List ByteArray) (hs : a.eval s = v) (hown : w.ownsRow base 9 1 v ys.length (ys.map Value.string))
    (B : Nat) (xv : Value) (xs : List ByteArray) (hx : a.eval x = xv) (hX : IsTexts B w xv xs) (hP : Proper xv) (hlen : ys.length + xs.length ≤ 1000)
    (h : ∀ v' w', w'.ownsRow base 9 1 v' (ys ++ xs).length ((ys ++ xs).map Value.string) → w.grownBy w' v.ownBlock → K (a.put o.dst v') w') : Oper.wp Tryz.prog o a w K Q := by
  obtain ⟨i0, hi0, hz0, hz1, hz2⟩ := info_parts strInfo
  by_cases hn : ∃ n c, xv = .slice none n c
  · obtain ⟨n, c, rfl⟩ := hn
    obtain ⟨rfl, rfl⟩ := hP n c rfl
    obtain ⟨a', c', hv, -, -, -⟩ := hX
    have h0 : xs = [] := by
      simp only [Value.slice.injEq] at hv
      exact List.eq_nil_of_length_eq_zero hv.2.1.symm
    subst h0
    have hrun := run_append_owned_none (P := Tryz.prog) (w := w) base 23 o.type 9 i0 1 Tryz.underlying23 hi0 v ys.length (ys.map Value.string) hown
    unfold Oper.wp
    simp [execOp, ho, resolve, invoke, builtin, hs, hx, hrun, Result.andThen]
    exact h v w (by simpa using hown) (grown_refl w _)
  · obtain ⟨ad, c, rfl, h1, h2, h3⟩ := hX
    cases ad with
    | none => exact absurd ⟨_, _, rfl⟩ hn
    | some ad =>
      refine wp_append_own w s x 23 ho base 9 i0 (.string ⟨#[]⟩) 1 16 Tryz.underlying23 hi0 hz0 hz1 hz2 rfl (by decide) v ys.length (ys.map Value.string) hs hown ad xs.length c (xs.map Value.string) hx (by simp) ?_ (fun u hu => by
        obtain ⟨y, _, rfl⟩ := List.mem_map.1 hu; rfl) (by unfold maxLen; omega) (by omega) hbase ?_
      · intro j u hj
        rcases h3 with rfl | ⟨b, off, ha, -, hc⟩
        · simp at hj
        · obtain rfl : ad = ⟨b, off, none⟩ := by simpa using ha
          rw [List.getElem?_map] at hj
          obtain ⟨y, hy, rfl⟩ := Option.map_eq_some_iff.1 hj
          rw [addr_add]
          exact hc j y hy
      · intro v' w' hown' hgrow _
        exact h v' w' (by simpa using hown') hgrow
theorem step_append_texts {ops : Array Oper} {o : Oper} {a : Act} {K : Act → World → Prop} {Q : Exit → Act → World → Prop} {E : Prop} {w : World} (hgd : o.guard = none) (s x : Operand)
    (ho : o.op = .call { callee := .builtin .append, args := #[s, x], argTypes := #[23, 23] }) (base : Nat) (hbase : base ≤ w.heap.size)
    (v : Value) (ys : List ByteArray) (hs : a.eval s = v) (hown : w.ownsRow base 9 1 v ys.length (ys.map Value.string))
    (B : Nat) (xv : Value) (xs : List ByteArray) (hx : a.eval x = xv) (hX : IsTexts B w xv xs) (hP : Proper xv) (hlen : ys.length + xs.length ≤ 1000)
    (h : ∀ v' w', w'.ownsRow base 9 1 v' (ys ++ xs).length ((ys ++ xs).map Value.string) → w.grownBy w' v.ownBlock → K (a.put o.dst v') w') :
    if Region.wanted o (yielded ops a.tmps) = true then Oper.wp Tryz.prog o a w K Q else E := by
  have hw : Region.wanted o (yielded ops a.tmps) = true := by simp [Region.wanted, hgd]
  rw [if_pos hw]
  exact wp_append_texts s x ho base hbase v ys hs hown B xv xs hx hX hP hlen h

theorem wpList_append_pairs {ops : Array Oper} {rest : List Oper} {o : Oper} {a : Act} {Q : Exit → Act → World → Prop} {w : World} (hgd : o.guard = none) (s x : Operand)
    (ho : o.op = .call { callee := .builtin .append, args := #[s, x], argTypes := #[24, 24] }) (base : Nat) (hbase : base ≤ w.heap.size)
    (v : Value) (ys : List (ByteArray × ByteArray)) (hs : a.eval s = v) (hown : w.ownsRow base 46 2 v ys.length (pairCells ys))
    (B : Nat) (xv : Value) (xs : List (ByteArray × ByteArray)) (hx : a.eval x = xv) (hX : IsPairs B w xv xs) (hP : Proper xv) (hlen : ys.length + xs.length ≤ 1000)
    (h : ∀ v' w', w'.ownsRow base 46 2 v' (ys ++ xs).length (pairCells (ys ++ xs)) → w.grownBy w' v.ownBlock → wpList Tryz.prog ops Q rest (a.put o.dst v') w') : wpList Tryz.prog ops Q (o :: rest) a w := by
  obtain ⟨i0, hi0, hz0, hz1, hz2⟩ := info_parts pairInfo
  by_cases hn : ∃ n c, xv = .slice none n c
  · obtain ⟨n, c, rfl⟩ := hn
    obtain ⟨rfl, rfl⟩ := hP n c rfl
    obtain ⟨a', c', hv, -, -, -⟩ := hX
    have h0 : xs = [] := by
      simp only [Value.slice.injEq] at hv
      exact List.eq_nil_of_length_eq_zero hv.2.1.symm
    subst h0
    refine wpList_append_own_none hgd s x 24 ho base 46 i0 2 Tryz.underlying24 hi0 v ys.length (pairCells ys) hs hown hx ?_
    exact h v w (by simpa using hown) (grown_refl w _)
  · obtain ⟨ad, c, rfl, h1, h2, h3⟩ := hX
    cases ad with
    | none => exact absurd ⟨_, _, rfl⟩ hn
    | some ad =>
      refine wpList_append_own w hgd s x 24 ho base 46 i0 (.agg #[.string ⟨#[]⟩, .string ⟨#[]⟩]) 2 32 Tryz.underlying24 hi0 hz0 hz1 hz2 rfl (by decide) v ys.length (pairCells ys) hs hown ad xs.length c (pairCells xs) hx (pairCells_len xs) ?_ (fun u hu => by
        unfold pairCells at hu
        obtain ⟨y, _, hu⟩ := List.mem_flatMap.1 hu
        simp only [List.mem_cons, List.not_mem_nil, or_false] at hu
        rcases hu with rfl | rfl <;> rfl) (by unfold maxLen; omega) (by omega) hbase ?_
      · intro j u hj
        rcases h3 with rfl | ⟨b, off, ha, -, hc⟩
        · simp [pairCells] at hj
        · obtain rfl : ad = ⟨b, off, none⟩ := by simpa using ha
          have hjl : j < xs.length * 2 := by rw [← pairCells_len]; exact (List.getElem?_eq_some_iff.1 hj).1
          rw [addr_add]
          obtain ⟨q, hq⟩ : ∃ q, j = q * 2 ∨ j = q * 2 + 1 := ⟨j / 2, by omega⟩
          have hql : q < xs.length := by omega
          have hk := pairCells_at xs q hql
          have hcc := hc q hql
          rcases hq with rfl | rfl
          · rw [hk.1] at hj
            cases hj
            exact hcc.1
          · rw [hk.2] at hj
            cases hj
            rw [← Nat.add_assoc]
            exact hcc.2
      · intro v' w' hown' hgrow _
        exact h v' w' (by rw [pairCells_append]; simpa using hown') hgrow

theorem owns_some {base n k : Nat} {T : TypeId} {w : World} {v : Value} {cs : List Value} (h : w.ownsRow base T k v n cs) (hn : 0 < n) : ∃ g cap, v = .slice (some ⟨g, 0, none⟩) n cap := by
  rcases h.2 with ⟨-, h0⟩ | ⟨g, cap, cur, rfl, -⟩
  · omega
  · exact ⟨g, cap, rfl⟩
theorem RulesAt.finalT {b p g : Nat} {w W : World} {r : RL} {v tv nv sv : Value} {xs : List ByteArray} (h : RulesAt b p W r) (hv : IsTexts W.heap.size W v xs) (hP : Proper v) (hd : Deck g W) (hgb : g < b) (hw : w.heap.size ≤ b) (hg : w.grownBy W (some g))
    (c0 : W.cell? ⟨p, 0, none⟩ = some tv) (c1 : W.cell? ⟨p, 1, none⟩ = some nv) (c2 : W.cell? ⟨p, 2, none⟩ = some sv) (F : World) (hF : F = (((W.setCell ⟨p, 0, none⟩ v).setCell ⟨b, 0, none⟩ v).setCell ⟨b, 1, none⟩ nv).setCell ⟨b, 2, none⟩ sv) :
    IsRulesP F.heap.size F (.agg #[v, nv, sv]) ⟨xs, r.nicks, r.streets⟩ ∧ Deck g F ∧ w.grownBy F (some g) := by
  have hbp := h.1
  exact (h.setTitles hv hP).final (hd.set (p := p) (by omega)) hgb hw (grown_set2 hg (by omega)) (World.cell?_setCell_same _ _ _ c0) ((World.cell?_setCell_other _ _ _ _ (by simp)).trans c1) ((World.cell?_setCell_other _ _ _ _ (by simp)).trans c2) F hF
theorem RulesAt.finalN {b p g : Nat} {w W : World} {r : RL} {v tv nv sv : Value} {xs : List (ByteArray × ByteArray)} (h : RulesAt b p W r) (hv : IsPairs W.heap.size W v xs) (hP : Proper v) (hd : Deck g W) (hgb : g < b) (hw : w.heap.size ≤ b) (hg : w.grownBy W (some g))
    (c0 : W.cell? ⟨p, 0, none⟩ = some tv) (c1 : W.cell? ⟨p, 1, none⟩ = some nv) (c2 : W.cell? ⟨p, 2, none⟩ = some sv) (F : World) (hF : F = (((W.setCell ⟨p, 1, none⟩ v).setCell ⟨b, 0, none⟩ tv).setCell ⟨b, 1, none⟩ v).setCell ⟨b, 2, none⟩ sv) :
    IsRulesP F.heap.size F (.agg #[tv, v, sv]) ⟨r.titles, xs, r.streets⟩ ∧ Deck g F ∧ w.grownBy F (some g) := by
  have hbp := h.1
  exact (h.setNicks hv hP).final (hd.set (p := p) (by omega)) hgb hw (grown_set2 hg (by omega)) ((World.cell?_setCell_other _ _ _ _ (by simp)).trans c0) (World.cell?_setCell_same _ _ _ c1) ((World.cell?_setCell_other _ _ _ _ (by simp)).trans c2) F hF
theorem RulesAt.finalS {b p g : Nat} {w W : World} {r : RL} {v tv nv sv : Value} {xs : List (ByteArray × ByteArray)} (h : RulesAt b p W r) (hv : IsPairs W.heap.size W v xs) (hP : Proper v) (hd : Deck g W) (hgb : g < b) (hw : w.heap.size ≤ b) (hg : w.grownBy W (some g))
    (c0 : W.cell? ⟨p, 0, none⟩ = some tv) (c1 : W.cell? ⟨p, 1, none⟩ = some nv) (c2 : W.cell? ⟨p, 2, none⟩ = some sv) (F : World) (hF : F = (((W.setCell ⟨p, 2, none⟩ v).setCell ⟨b, 0, none⟩ tv).setCell ⟨b, 1, none⟩ nv).setCell ⟨b, 2, none⟩ v) :
    IsRulesP F.heap.size F (.agg #[tv, nv, v]) ⟨r.titles, r.nicks, xs⟩ ∧ Deck g F ∧ w.grownBy F (some g) := by
  have hbp := h.1
  exact (h.setStreets hv hP).final (hd.set (p := p) (by omega)) hgb hw (grown_set2 hg (by omega)) ((World.cell?_setCell_other _ _ _ _ (by simp)).trans c0) ((World.cell?_setCell_other _ _ _ _ (by simp)).trans c1) (World.cell?_setCell_same _ _ _ c2) F hF
theorem keep_cell {w w' : World} {p : Nat} {v : Value} {x : Option Nat} (hg : w.grownBy w' x) (hp : p < w.heap.size) (hx : ∀ q, x = some q → q ≠ p) (hc : w.cell? ⟨p, 0, none⟩ = some v) : w'.cell? ⟨p, 0, none⟩ = some v :=
  (World.cell?_of_block (a := ⟨p, 0, none⟩) (w := w) (w' := w') (hg.block p hp (fun e => hx p e.symm rfl))).trans hc
theorem below_drew {B : Nat} {a w : World} (h : Below B a w) : Below B a w.drew := ⟨h.os, h.tape, h.output, h.size, h.block⟩
theorem below_none {w w' : World} {B : Nat} {x : Option Nat} (h : w.grownBy w' x) (hB : B ≤ w.heap.size) (hx : ∀ q, x = some q → B ≤ q) : Below B w w' :=
  ⟨h.os, h.tape, h.output, h.size, fun k hk => h.block k (by omega) (fun e => by have := hx k e.symm; omega)⟩
theorem texts_one {w : World} {n : Nat} {s : ByteArray} (h : w.cell? ⟨n, 0, none⟩ = some (.string s)) : IsTexts (n + 1) w (.slice (some ⟨n, 0, none⟩) 1 1) [s] :=
  ⟨_, _, rfl, Nat.le_refl _, by simp [maxLen], .inr ⟨n, 0, rfl, Nat.lt_succ_self _, fun j x hx => by
    match j, hx with
    | 0, hx => simp at hx; subst hx; exact h⟩⟩
/-- string([]byte{x, y}), wherever the two cells lie. -/
theorem conv2 (c d : UInt8) (W : World) (n : Nat) (h0 : W.cell? ⟨n, 0, none⟩ = some (.int .u8 c.toNat)) (h1 : W.cell? ⟨n, 1, none⟩ = some (.int .u8 d.toNat)) :
    (convert 55 9 (.slice (some ⟨n, 0, none⟩) 2 2)).run Tryz.prog W = .ok (.string ⟨#[c, d]⟩) W := by
  refine run_convert_bytes_back W 55 9 5 ⟨n, 0, none⟩ 2 [c, d] Tryz.underlying55 Tryz.underlying5 Tryz.underlying9 ?_
  intro j hj
  match j, hj with
  | 0, _ => simpa [Addr.add] using h0
  | 1, _ => simpa [Addr.add] using h1
theorem u8_wrap (x : Int) : ∃ c : UInt8, IntKind.u8.wrap x = (c.toNat : Int) := by
  have h := bounds_u8 (Go.wf_wrap .u8 x)
  refine ⟨UInt8.ofNat (IntKind.u8.wrap x).toNat, ?_⟩
  rw [UInt8.toNat_ofNat']
  omega
theorem bcell {W w1 : World} (hb : Below W.heap.size W w1) : (∀ b o, b < W.heap.size → w1.cell? ⟨b, o, none⟩ = W.cell? ⟨b, o, none⟩) ∧ (∀ b o, b < W.heap.size → w1.frozen? ⟨b, o, none⟩ = W.frozen? ⟨b, o, none⟩) :=
  ⟨fun b o h => hb.cell (p := ⟨b, o, none⟩) h, fun b o h => hb.frozen (p := ⟨b, o, none⟩) h⟩
theorem dealt_lens {r : RL} (h : Dealt r) : r.titles.length ≤ 2 ∧ r.nicks.length ≤ 2 ∧ r.streets.length ≤ 2 := by
  obtain ⟨t, n, s⟩ := r
  obtain ⟨h1, h2, h3⟩ := h
  dsimp only at h1 h2 h3
  refine ⟨?_, ?_, ?_⟩
  · rcases h1 with rfl | rfl
    · exact Nat.zero_le _
    · exact (by decide : titlesL.length ≤ 2)
  · rcases h2 with rfl | rfl
    · exact Nat.zero_le _
    · exact (by decide : nicksL.length ≤ 2)
  · rcases h3 with rfl | rfl
    · exact Nat.zero_le _
    · exact (by decide : streetsL.length ≤ 2)
def badT : List ByteArray := [⟨#[]⟩, ⟨#[97]⟩, ⟨#[120, 49]⟩, ⟨#[122, 122]⟩, ⟨#[114, 111, 98, 101, 114, 116]⟩]
def badF : List ByteArray := [⟨#[115, 116, 114, 101, 101, 116]⟩, ⟨#[122, 122]⟩, ⟨#[97]⟩]
def badS : List ByteArray := [⟨#[115, 116]⟩, ⟨#[49, 50]⟩, ⟨#[120]⟩, ⟨#[]⟩]

set_option maxRecDepth 100000 in
set_option maxHeartbeats 8000000 in
theorem Bent_any (g : Nat) (w : World) (h : Deck g w) :
    Calls Tryz.prog 12 #[.pointer (some ⟨g, 0, none⟩)] w fun e w' => ∃ v r, e = .returned v ∧ IsRules w'.heap.size w' v r ∧ Deck g w' ∧ w.grownBy w' (some g) := by
  have HD0 := Lib.hid (h.alloc (.cells #[.slice none 0 0, .slice none 0 0, .slice none 0 0] 26))
  have hlt := h.lt
  have HG0 := Lib.hid (grown_alloc (grown_refl w (some g)) (.cells #[.slice none 0 0, .slice none 0 0, .slice none 0 0] 26))
  have HZ0 := Lib.hid (show (w.alloc (.cells #[.slice none 0 0, .slice none 0 0, .slice none 0 0] 26)).heap[w.heap.size]? = some (.cells #[.slice none 0 0, .slice none 0 0, .slice none 0 0] 26 (0, 0)) from heap_alloc_new w _)
  clear h
  go_enter Tryz.func12, Tryz.ntmps12
  go_wp2_with fail
  refine (Rules_any g _ HD0.out).mono ?_
  rintro e w1 ⟨v, r, rfl, hrp, hdl, hd1, g1⟩
  have hsz1 := g1.size
  simp only [World.size_alloc] at hsz1
  have hdz := dealt_lens hdl
  obtain ⟨tv, nv, sv, rfl, ⟨⟨ta, tc, k1, q1⟩, p1⟩, ⟨⟨na, nc, k2, q2⟩, p2⟩, ⟨⟨ua, uc, k3, q3⟩, p3⟩⟩ := hrp
  have hs1 : RulesAt w.heap.size w1.heap.size (w1.alloc (.cells #[tv, nv, sv] 26)) r := by
    have hb := below_alloc w1 (.cells #[tv, nv, sv] 26)
    exact ⟨by omega, (hb.block w.heap.size (by omega)).trans ((g1.block w.heap.size (by simp) (fun e => by injection e; omega)).trans HZ0.out), tv, nv, sv, heap_alloc_new w1 _, ⟨(IsTexts.keep ⟨ta, tc, k1, q1⟩ hb).more hb.size, p1⟩, ⟨(IsPairs.keep ⟨na, nc, k2, q2⟩ hb).more hb.size, p2⟩, ⟨(IsPairs.keep ⟨ua, uc, k3, q3⟩ hb).more hb.size, p3⟩⟩
  subst k1 k2 k3
  clear q1 q2 q3 p1 p2 p3
  have hd1a := hd1.alloc (.cells #[.slice ta r.titles.length tc, .slice na r.nicks.length nc, .slice ua r.streets.length uc] 26)
  have hg1a := grown_alloc (grown_trans HG0.out g1) (.cells #[.slice ta r.titles.length tc, .slice na r.nicks.length nc, .slice ua r.streets.length uc] 26)
  have HS1 := Lib.hid hs1
  have HD1 := Lib.hid hd1a
  have HG1 := Lib.hid hg1a
  clear hs1 hd1a hg1a
  go_wp2_with fail
  refine (Next_any g _ HD1.out 9 (by omega) (by omega)).mono ?_
  rintro e W ⟨y, rfl, ⟨hy0, hy1⟩, hd2, g2⟩
  have HS := Lib.hid (HS1.out.grown HD1.out hlt g2)
  have HD := Lib.hid hd2
  have HG := Lib.hid (grown_trans HG1.out g2)
  clear HS1 HD1 HG1 hd2 g2
  have hpw : w.heap.size < w1.heap.size := by omega
  generalize hp : w1.heap.size = p at *
  have HPp := Lib.hid hp
  clear hp hsz1 g1 hd1
  by_cases y0 : y = 0
  · subst y0
    obtain ⟨l1, f1, f0, tv2, nv2, sv2, hr2, c0, c1, c2, d0, d1, d2⟩ := HS.out.cells
    obtain ⟨_, _, _, he, htx, -, -⟩ := hr2
    simp only [Value.agg.injEq, Array.mk.injEq, List.cons.injEq, and_true] at he
    obtain ⟨rfl, rfl, rfl⟩ := he
    have HTX := Lib.hid htx
    have gW := HD.out.lt
    clear htx c1 c2 d0 d1 d2 f0
    go_wp2_with (at_builtin; refine wpList_append_texts rfl _ _ rfl W.heap.size (Nat.le_refl _) _ [] rfl (World.ownsRow_nil _ _ _ _) W.heap.size _ r.titles rfl HTX.out.1 HTX.out.2 (by simp; omega) ?_)
    intro v1 w3 own1 grow1
    have hg3 : W.grownBy w3 (some g) := grown_own (grown_refl W (some g)) grow1 (fun q hq => by cases hq)
    have hd3 : Deck g w3 := HD.out.own grow1 (fun q hq => by cases hq)
    have OWN1 := Lib.hid own1
    clear own1 grow1
    go_wp2_with fail
    refine (Pick_lit g w3 badT hd3 (by decide) (by decide)).mono ?_
    rintro e w4 ⟨s, hs, rfl, hd4, g4⟩
    clear hs
    have hg4 := grown_trans hg3 g4
    have hsz4 := hg4.size
    have OWN4 := Lib.hid (owns_grown OWN1.out g4 (fun q hq e => by have := (owns_at OWN1.out e).1; injection hq with hq; omega))
    go_wp2_with (at_builtin; refine wpList_append_texts rfl _ _ rfl W.heap.size (by simp; omega) _ r.titles rfl (OWN4.out.alloc _) (w4.heap.size + 1) _ [s] rfl (texts_lit w4 [s] (by simp [maxLen])) (proper_some _ _ _) (by simp; omega) ?_)
    intro v2 w5 own2 grow2
    have hg5 : W.grownBy w5 (some g) := grown_own (grown_alloc hg4 (.cells #[.string s] 9)) grow2 (fun q hq => (owns_at OWN4.out hq).1)
    have own2' : w5.ownsRow W.heap.size 9 1 v2 (r.titles ++ [s]).length ((r.titles ++ [s]).map Value.string) := by simpa using own2
    have hs5 := HS.out.grown HD.out hlt hg5
    have hd5 : Deck g w5 := (hd4.alloc _).own grow2 (fun q hq => by have := (owns_at OWN4.out hq).1; omega)
    have hG5 := grown_trans HG.out hg5
    obtain ⟨gq, cap, hv2⟩ := owns_some own2' (by simp)
    have hof := IsTexts.of_own own2'
    have hpo := proper_own own2'
    rw [show (r.titles ++ [s]).length = r.titles.length + 1 from by simp] at hv2
    subst hv2
    obtain ⟨l1, f1, f0, tv5, nv5, sv5, hr5, c0, c1, c2, d0, d1, d2⟩ := hs5.cells
    obtain ⟨_, _, _, he, ⟨⟨ta2, tc2, k1, -, -, -⟩, -⟩, ⟨⟨na2, nc2, k2, -, -, -⟩, -⟩, ⟨⟨ua2, uc2, k3, -, -, -⟩, -⟩⟩ := hr5
    simp only [Value.agg.injEq, Array.mk.injEq, List.cons.injEq, and_true] at he
    obtain ⟨rfl, rfl, rfl⟩ := he
    subst k1 k2 k3
    have HF := Lib.hid (fun F => hs5.finalT hof hpo hd5 hlt (Nat.le_refl _) hG5 c0 c1 c2 F)
    have f10 := f1 0
    have f00 := f0 0
    have f01 := f0 1
    have f02 := f0 2
    have hbp : w.heap.size ≠ p := by omega
    have hbl : w.heap.size < w5.heap.size := by omega
    clear f1 f0 own2 own2' grow2 hs5 hG5 HS HD HG hof hpo
    go_wp2
    obtain ⟨k1, k2, k3⟩ := HF.out _ rfl
    exact bodyPost_ret (v := .agg #[.slice (some ⟨gq, 0, none⟩) (r.titles.length + 1) cap, .slice na2 _ nc2, .slice ua2 _ uc2]) (by simp [results, Tryz.results12, go_sem, d0, d1, d2]) rfl ⟨_, _, rfl, k1.plain, k2, k3⟩
  · by_cases y1 : y = 1
    · subst y1
      obtain ⟨l1, f1, f0, tv2, nv2, sv2, hr2, c0, c1, c2, d0, d1, d2⟩ := HS.out.cells
      obtain ⟨_, _, _, he, -, htx, -⟩ := hr2
      simp only [Value.agg.injEq, Array.mk.injEq, List.cons.injEq, and_true] at he
      obtain ⟨rfl, rfl, rfl⟩ := he
      have HTX := Lib.hid htx
      have gW := HD.out.lt
      clear htx c0 c2 d0 d1 d2 f0
      go_wp2_with (at_builtin; refine wpList_append_pairs rfl _ _ rfl W.heap.size (Nat.le_refl _) _ [] rfl (World.ownsRow_nil _ _ _ _) W.heap.size _ r.nicks rfl HTX.out.1 HTX.out.2 (by simp; omega) ?_)
      intro v1 w3 own1 grow1
      have hg3 : W.grownBy w3 (some g) := grown_own (grown_refl W (some g)) grow1 (fun q hq => by cases hq)
      have hd3 : Deck g w3 := HD.out.own grow1 (fun q hq => by cases hq)
      have OWN1 := Lib.hid own1
      clear own1 grow1
      go_wp2_with fail
      refine (Token_any g w3 hd3).mono ?_
      rintro e w3b ⟨s, rfl, hs, hd3b, g3b⟩
      clear hs
      go_wp2_with fail
      refine (Token_any g w3b hd3b).mono ?_
      rintro e w4 ⟨s2, rfl, hs, hd4, g4b⟩
      clear hs
      have g4 := grown_trans g3b g4b
      have hg4 := grown_trans hg3 g4
      have hsz4 := hg4.size
      have OWN4 := Lib.hid (owns_grown OWN1.out g4 (fun q hq e => by have := (owns_at OWN1.out e).1; injection hq with hq; omega))
      go_wp2_with (at_builtin; refine wpList_append_pairs rfl _ _ rfl W.heap.size (by simp; omega) _ r.nicks rfl (OWN4.out.alloc _) (w4.heap.size + 1) _ [(s, s2)] rfl (pairs_lit w4 [(s, s2)] (by simp [maxLen])) (proper_some _ _ _) (by simp; omega) ?_)
      intro v2 w5 own2 grow2
      have hg5 : W.grownBy w5 (some g) := grown_own (grown_alloc hg4 (.cells #[.string s, .string s2] 46)) grow2 (fun q hq => (owns_at OWN4.out hq).1)
      have own2' : w5.ownsRow W.heap.size 46 2 v2 (r.nicks ++ [(s, s2)]).length (pairCells (r.nicks ++ [(s, s2)])) := by simpa using own2
      have hs5 := HS.out.grown HD.out hlt hg5
      have hd5 : Deck g w5 := (hd4.alloc _).own grow2 (fun q hq => by have := (owns_at OWN4.out hq).1; omega)
      have hG5 := grown_trans HG.out hg5
      obtain ⟨gq, cap, hv2⟩ := owns_some own2' (by simp)
      have hof := IsPairs.of_own own2'
      have hpo := proper_own own2'
      rw [show (r.nicks ++ [(s, s2)]).length = r.nicks.length + 1 from by simp] at hv2
      subst hv2
      obtain ⟨l1, f1, f0, tv5, nv5, sv5, hr5, c0, c1, c2, d0, d1, d2⟩ := hs5.cells
      obtain ⟨_, _, _, he, ⟨⟨ta2, tc2, k1, -, -, -⟩, -⟩, ⟨⟨na2, nc2, k2, -, -, -⟩, -⟩, ⟨⟨ua2, uc2, k3, -, -, -⟩, -⟩⟩ := hr5
      simp only [Value.agg.injEq, Array.mk.injEq, List.cons.injEq, and_true] at he
      obtain ⟨rfl, rfl, rfl⟩ := he
      subst k1 k2 k3
      have HF := Lib.hid (fun F => hs5.finalN hof hpo hd5 hlt (Nat.le_refl _) hG5 c0 c1 c2 F)
      have f10 := f1 1
      have f00 := f0 0
      have f01 := f0 1
      have f02 := f0 2
      have hbp : w.heap.size ≠ p := by omega
      have hbl : w.heap.size < w5.heap.size := by omega
      clear f1 f0 own2 own2' grow2 hs5 hG5 HS HD HG hof hpo
      go_wp2
      obtain ⟨k1, k2, k3⟩ := HF.out _ rfl
      exact bodyPost_ret (v := .agg #[.slice ta2 _ tc2, .slice (some ⟨gq, 0, none⟩) (r.nicks.length + 1) cap, .slice ua2 _ uc2]) (by simp [results, Tryz.results12, go_sem, d0, d1, d2]) rfl ⟨_, _, rfl, k1.plain, k2, k3⟩
    · by_cases y2 : y = 2
      · subst y2
        obtain ⟨l1, f1, f0, tv2, nv2, sv2, hr2, c0, c1, c2, d0, d1, d2⟩ := HS.out.cells
        obtain ⟨_, _, _, he, -, -, htx⟩ := hr2
        simp only [Value.agg.injEq, Array.mk.injEq, List.cons.injEq, and_true] at he
        obtain ⟨rfl, rfl, rfl⟩ := he
        have HTX := Lib.hid htx
        have gW := HD.out.lt
        clear htx c0 c1 d0 d1 d2 f0
        go_wp2_with (at_builtin; refine wpList_append_pairs rfl _ _ rfl W.heap.size (Nat.le_refl _) _ [] rfl (World.ownsRow_nil _ _ _ _) W.heap.size _ r.streets rfl HTX.out.1 HTX.out.2 (by simp; omega) ?_)
        intro v1 w3 own1 grow1
        have hg3 : W.grownBy w3 (some g) := grown_own (grown_refl W (some g)) grow1 (fun q hq => by cases hq)
        have hd3 : Deck g w3 := HD.out.own grow1 (fun q hq => by cases hq)
        have OWN1 := Lib.hid own1
        clear own1 grow1
        go_wp2_with fail
        refine (Pick_lit g w3 badF hd3 (by decide) (by decide)).mono ?_
        rintro e w3b ⟨s, hs, rfl, hd3b, g3b⟩
        clear hs
        go_wp2_with fail
        refine (Pick_lit g w3b badS hd3b (by decide) (by decide)).mono ?_
        rintro e w4 ⟨s2, hs, rfl, hd4, g4b⟩
        clear hs
        have g4 := grown_trans g3b g4b
        have hg4 := grown_trans hg3 g4
        have hsz4 := hg4.size
        have OWN4 := Lib.hid (owns_grown OWN1.out g4 (fun q hq e => by have := (owns_at OWN1.out e).1; injection hq with hq; omega))
        go_wp2_with (at_builtin; refine wpList_append_pairs rfl _ _ rfl W.heap.size (by simp; omega) _ r.streets rfl (OWN4.out.alloc _) (w4.heap.size + 1) _ [(s, s2)] rfl (pairs_lit w4 [(s, s2)] (by simp [maxLen])) (proper_some _ _ _) (by simp; omega) ?_)
        intro v2 w5 own2 grow2
        have hg5 : W.grownBy w5 (some g) := grown_own (grown_alloc hg4 (.cells #[.string s, .string s2] 46)) grow2 (fun q hq => (owns_at OWN4.out hq).1)
        have own2' : w5.ownsRow W.heap.size 46 2 v2 (r.streets ++ [(s, s2)]).length (pairCells (r.streets ++ [(s, s2)])) := by simpa using own2
        have hs5 := HS.out.grown HD.out hlt hg5
        have hd5 : Deck g w5 := (hd4.alloc _).own grow2 (fun q hq => by have := (owns_at OWN4.out hq).1; omega)
        have hG5 := grown_trans HG.out hg5
        obtain ⟨gq, cap, hv2⟩ := owns_some own2' (by simp)
        have hof := IsPairs.of_own own2'
        have hpo := proper_own own2'
        rw [show (r.streets ++ [(s, s2)]).length = r.streets.length + 1 from by simp] at hv2
        subst hv2
        obtain ⟨l1, f1, f0, tv5, nv5, sv5, hr5, c0, c1, c2, d0, d1, d2⟩ := hs5.cells
        obtain ⟨_, _, _, he, ⟨⟨ta2, tc2, k1, -, -, -⟩, -⟩, ⟨⟨na2, nc2, k2, -, -, -⟩, -⟩, ⟨⟨ua2, uc2, k3, -, -, -⟩, -⟩⟩ := hr5
        simp only [Value.agg.injEq, Array.mk.injEq, List.cons.injEq, and_true] at he
        obtain ⟨rfl, rfl, rfl⟩ := he
        subst k1 k2 k3
        have HF := Lib.hid (fun F => hs5.finalS hof hpo hd5 hlt (Nat.le_refl _) hG5 c0 c1 c2 F)
        have f10 := f1 2
        have f00 := f0 0
        have f01 := f0 1
        have f02 := f0 2
        have hbp : w.heap.size ≠ p := by omega
        have hbl : w.heap.size < w5.heap.size := by omega
        clear f1 f0 own2 own2' grow2 hs5 hG5 HS HD HG hof hpo
        go_wp2
        obtain ⟨k1, k2, k3⟩ := HF.out _ rfl
        exact bodyPost_ret (v := .agg #[.slice ta2 _ tc2, .slice na2 _ nc2, .slice (some ⟨gq, 0, none⟩) (r.streets.length + 1) cap]) (by simp [results, Tryz.results12, go_sem, d0, d1, d2]) rfl ⟨_, _, rfl, k1.plain, k2, k3⟩
      · by_cases y3 : y = 3
        · subst y3
          have gW := HD.out.lt
          go_wp2
          go_loopw [4] (fun i wr => ∃ (k : Nat) (r' : RL), k ≤ 33 ∧ i = .int .i64 k ∧ r'.titles.length ≤ 2 + k ∧ RulesAt w.heap.size p wr r' ∧ Deck g wr ∧ w.grownBy wr (some g)) (fun i _ => 34 - (intOf i).toNat)
          case atStart => exact ⟨0, r, by omega, rfl, by omega, HS.out, HD.out, HG.out⟩
          case round =>
            obtain ⟨k, r', hk, rfl, hrl, hs, hd, hg⟩ := hrel
            clear HS HD HG
            have HSr := Lib.hid hs
            clear hs
            go_wp2_with fail
            refine (Next_any g wr hd 2 (by omega) (by omega)).mono ?_
            rintro e Wr ⟨z, rfl, ⟨hz0, hz1⟩, hd3, g3⟩
            have HS := Lib.hid (HSr.out.grown hd hlt g3)
            have HD := Lib.hid hd3
            have HG := Lib.hid (grown_trans hg g3)
            clear HSr hd hd3 g3 hg
            by_cases hlt2 : (k : Int) < 32 + z
            · have hk33 : k < 33 := by omega
              obtain ⟨l1, f1, f0, tv2, nv2, sv2, hr2, c0, c1, c2, d0, d1, d2⟩ := HS.out.cells
              obtain ⟨_, _, _, he, htx, -, -⟩ := hr2
              simp only [Value.agg.injEq, Array.mk.injEq, List.cons.injEq, and_true] at he
              obtain ⟨rfl, rfl, rfl⟩ := he
              have HTX := Lib.hid htx
              have f10 := f1 0
              clear htx c1 c2 d0 d1 d2 f0 f1
              go_wp2_with fail
              obtain ⟨cx, hcx⟩ := u8_wrap (IntKind.i64.wrap (97 + IntKind.i64.wrap ((k : Int) / 26)))
              obtain ⟨cy, hcy⟩ := u8_wrap (IntKind.i64.wrap (97 + (k : Int).tmod 26))
              have hcv := conv2 cx cy
              go_region_law
                (first
                  | (refine step_append_texts (by rfl) _ _ (by rfl) Wr.heap.size (by first | exact Nat.le_refl _ | (simp; done) | (simp; omega)) _ [] (by rfl) (World.ownsRow_nil _ _ _ _) Wr.heap.size _ r'.titles (by rfl) (HTX.out.1.keep (by repeat (first | exact Below.refl _ _ | refine below_drew ?_ | refine Below.alloc ?_ (by first | exact Nat.le_refl _ | (simp; done) | (simp; omega)) _))) HTX.out.2 (by simp; omega) ?_
                     intro v1 w3 own1 grow1
                     have F1 : Below Wr.heap.size Wr w3 := Below.trans (by repeat (first | exact Below.refl _ _ | refine below_drew ?_ | refine Below.alloc ?_ (by first | exact Nat.le_refl _ | (simp; done) | (simp; omega)) _)) (below_none grow1 (by first | exact Nat.le_refl _ | (simp; done) | (simp; omega)) (fun q hq => by cases hq))
                     have hsz3 : Wr.heap.size ≤ w3.heap.size := F1.size
                     obtain ⟨hcw, hfw⟩ := bcell (below_none grow1 (Nat.le_refl _) (fun q hq => by cases hq)))
                  | (refine step_append_texts (by rfl) _ _ (by rfl) Wr.heap.size (by first | exact hsz3 | (simp; omega)) v1 r'.titles (by rfl) (by first | exact own1 | exact own1.alloc _ | exact (own1.alloc _).alloc _) _ _ [⟨#[122, 122]⟩ ++ ⟨#[cx, cy]⟩] (by rfl) (texts_one (by first | simp | (rw [hcw _ _ (by simp)]; simp))) (proper_some _ _ _) (by simp; omega) ?_
                     intro v2 w5 own2 grow2
                     have e2 : (r'.titles ++ [(⟨#[122, 122]⟩ ++ ⟨#[cx, cy]⟩ : ByteArray)]).length = r'.titles.length + 1 := by simp
                     have hof := IsTexts.of_own own2
                     have hpo := proper_own own2
                     obtain ⟨gq, cap, hv2⟩ := owns_some own2 (by simp)
                     rw [e2] at hv2
                     subst hv2
                     have F2 : Below Wr.heap.size Wr w5 := Below.trans (Below.trans F1 (by repeat (first | exact Below.refl _ _ | refine below_drew ?_ | refine Below.alloc ?_ (by first | omega | (simp; omega)) _))) (below_none grow2 (by first | exact hsz3 | (simp; omega)) (fun q hq => (owns_at own1 hq).1))
                     have fz : w5.frozen? ⟨p, 0, none⟩ = false := (F2.frozen (p := ⟨p, 0, none⟩) l1).trans f10
                     have cz : w5.cell? ⟨p, 0, none⟩ = some tv2 := (F2.cell (p := ⟨p, 0, none⟩) l1).trans c0))
              all_goals
                clear hcw hfw grow1 grow2 own1 hsz3 e2 hcx hcy hcv
                have HOF := Lib.hid hof
                have HPO := Lib.hid hpo
                clear hof hpo own2
                go_wp2
                refine ⟨⟨k + 1, ⟨r'.titles ++ [⟨#[122, 122]⟩ ++ ⟨#[cx, cy]⟩], r'.nicks, r'.streets⟩, by omega, by go_num, by simp; omega, (HS.out.below F2).setTitles HOF.out HPO.out, (HD.out.below F2 HD.out.lt).set (by omega), grown_set2 (grown_below HG.out F2 HG.out.size) (by omega)⟩, by simp [intOf]; omega⟩
            · have hge : ¬ (k : Int) < 32 + z := hlt2
              obtain ⟨l1, f1, f0, tv2, nv2, sv2, hr2, c0, c1, c2, d0, d1, d2⟩ := HS.out.cells
              obtain ⟨_, _, _, he, ⟨⟨ta2, tc2, k1, -, -, -⟩, -⟩, ⟨⟨na2, nc2, k2, -, -, -⟩, -⟩, ⟨⟨ua2, uc2, k3, -, -, -⟩, -⟩⟩ := hr2
              simp only [Value.agg.injEq, Array.mk.injEq, List.cons.injEq, and_true] at he
              obtain ⟨rfl, rfl, rfl⟩ := he
              subst k1 k2 k3
              have f00 := f0 0
              have f01 := f0 1
              have f02 := f0 2
              clear f1 f0
              have HF := Lib.hid (fun F => HS.out.final HD.out hlt (Nat.le_refl _) HG.out c0 c1 c2 F)
              go_wp2
              obtain ⟨k1, k2, k3⟩ := HF.out _ rfl
              exact bodyPost_ret (v := .agg #[.slice ta2 _ tc2, .slice na2 _ nc2, .slice ua2 _ uc2]) (by simp [results, Tryz.results12, go_sem, d0, d1, d2]) rfl ⟨_, _, rfl, k1.plain, k2, k3⟩
        · have t0 : (y == 0) = false := by simp; exact y0
          have t1 : (y == 1) = false := by simp; exact y1
          have t2 : (y == 2) = false := by simp; exact y2
          have t3 : (y == 3) = false := by simp; exact y3
          clear y0 y1 y2 y3
          obtain ⟨l1, f1, f0, tv2, nv2, sv2, hr2, c0, c1, c2, d0, d1, d2⟩ := HS.out.cells
          obtain ⟨_, _, _, he, ⟨⟨ta2, tc2, k1, -, -, -⟩, -⟩, ⟨⟨na2, nc2, k2, -, -, -⟩, -⟩, ⟨⟨ua2, uc2, k3, -, -, -⟩, -⟩⟩ := hr2
          simp only [Value.agg.injEq, Array.mk.injEq, List.cons.injEq, and_true] at he
          obtain ⟨rfl, rfl, rfl⟩ := he
          subst k1 k2 k3
          have f00 := f0 0
          have f01 := f0 1
          have f02 := f0 2
          clear f1 f0
          have HF := Lib.hid (fun F => HS.out.final HD.out hlt (Nat.le_refl _) HG.out c0 c1 c2 F)
          go_wp2
          obtain ⟨k1, k2, k3⟩ := HF.out _ rfl
          exact bodyPost_ret (v := .agg #[.slice ta2 _ tc2, .slice na2 _ nc2, .slice ua2 _ uc2]) (by simp [results, Tryz.results12, go_sem, d0, d1, d2]) rfl ⟨_, _, rfl, k1.plain, k2, k3⟩
end Go.Proofs.YthplnfblpdojkaaGreatDoor
