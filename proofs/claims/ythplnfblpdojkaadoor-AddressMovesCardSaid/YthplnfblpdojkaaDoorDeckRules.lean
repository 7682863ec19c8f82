/- Rules that a deck deals. -/
import Derived.Test.YthplnfblpdojkaaDoorNameNorm2
import Derived.Test.YthplnfblpdojkaaDoorDress
namespace Go.Proofs.YthplnfblpdojkaaDoor
open Go.RowKit
set_option linter.unusedVariables false
set_option maxRecDepth 100000

theorem IsTexts.off {B : Nat} {w w' : World} {v : Value} {xs : List ByteArray} (h : IsTexts B w v xs) (hb : ∀ b o s, b < B → w.cell? ⟨b, o, none⟩ = some (.string s) → w'.cell? ⟨b, o, none⟩ = some (.string s)) : IsTexts B w' v xs := by
  obtain ⟨a, c, hv, h1, h2, h3⟩ := h
  refine ⟨a, c, hv, h1, h2, ?_⟩
  rcases h3 with h3 | ⟨b, o, ha, hlt, hc⟩
  · exact .inl h3
  · exact .inr ⟨b, o, ha, hlt, fun j x hx => hb _ _ _ hlt (hc j x hx)⟩
theorem IsPairs.off {B : Nat} {w w' : World} {v : Value} {ps : List (ByteArray × ByteArray)} (h : IsPairs B w v ps) (hb : ∀ b o s, b < B → w.cell? ⟨b, o, none⟩ = some (.string s) → w'.cell? ⟨b, o, none⟩ = some (.string s)) : IsPairs B w' v ps := by
  obtain ⟨a, c, hv, h1, h2, h3⟩ := h
  refine ⟨a, c, hv, h1, h2, ?_⟩
  rcases h3 with h3 | ⟨b, o, ha, hlt, hc⟩
  · exact .inl h3
  · exact .inr ⟨b, o, ha, hlt, fun j hj => ⟨hb _ _ _ hlt (hc j hj).1, hb _ _ _ hlt (hc j hj).2⟩⟩
theorem IsRules.off {B : Nat} {w w' : World} {v : Value} {r : RL} (h : IsRules B w v r) (hb : ∀ b o s, b < B → w.cell? ⟨b, o, none⟩ = some (.string s) → w'.cell? ⟨b, o, none⟩ = some (.string s)) : IsRules B w' v r := by
  obtain ⟨tv, nv, sv, rfl, h1, h2, h3⟩ := h
  exact ⟨tv, nv, sv, rfl, h1.off hb, h2.off hb, h3.off hb⟩
theorem off_grown {B g : Nat} {w w' : World} (hd : Deck g w) (hb : w.grownBy w' (some g)) (hB : B ≤ w.heap.size) : ∀ b o s, b < B → w.cell? ⟨b, o, none⟩ = some (.string s) → w'.cell? ⟨b, o, none⟩ = some (.string s) := fun b o s hlt hc => by
  have hne := hd.ne hc
  exact (World.cell?_of_block (a := ⟨b, o, none⟩) (w := w) (w' := w') (hb.block b (by omega) (fun e => hne (by injection e)))).trans hc
theorem IsRules.grown {B g : Nat} {w w' : World} {v : Value} {r : RL} (h : IsRules B w v r) (hd : Deck g w) (hb : w.grownBy w' (some g)) (hB : B ≤ w.heap.size) : IsRules B w' v r := h.off (off_grown hd hb hB)
theorem IsPairs.grown {B g : Nat} {w w' : World} {v : Value} {ps : List (ByteArray × ByteArray)} (h : IsPairs B w v ps) (hd : Deck g w) (hb : w.grownBy w' (some g)) (hB : B ≤ w.heap.size) : IsPairs B w' v ps := h.off (off_grown hd hb hB)

/-- No cell of a block of three slices is a string: what is stored there touches no text. -/
theorem off_set {B p o : Nat} {w : World} {u x y z : Value} {T : TypeId} (hp : w.heap[p]? = some (.cells #[x, y, z] T (0, 0))) (hx : ∀ s, x ≠ .string s) (hy : ∀ s, y ≠ .string s) (hz : ∀ s, z ≠ .string s) :
    ∀ b q s, b < B → w.cell? ⟨b, q, none⟩ = some (.string s) → (w.setCell ⟨p, o, none⟩ u).cell? ⟨b, q, none⟩ = some (.string s) := fun b q s _ hc => by
  have hne : b ≠ p := by
    rintro rfl
    rw [Lib.cell_of_heap hp] at hc
    match q, hc with
    | 0, hc => simp at hc; exact hx s hc
    | 1, hc => simp at hc; exact hy s hc
    | 2, hc => simp at hc; exact hz s hc
    | n + 3, hc => simp at hc
  exact (World.cell?_of_block (a := ⟨b, q, none⟩) (Below.heap_setCell w ⟨p, o, none⟩ u b hne)).trans hc

/-- A slice without an address has no room either. -/
def Proper (v : Value) : Prop := ∀ n c, v = .slice none n c → n = 0 ∧ c = 0
theorem proper_some (a : Addr) (n c : Nat) : Proper (.slice (some a) n c) := fun _ _ h => by cases h
theorem proper_nil : Proper (.slice none 0 0) := fun _ _ h => by cases h; exact ⟨rfl, rfl⟩
/-- A value that reads as rules, each list proper. -/
def IsRulesP (B : Nat) (w : World) (v : Value) (r : RL) : Prop := ∃ tv nv sv, v = .agg #[tv, nv, sv] ∧ (IsTexts B w tv r.titles ∧ Proper tv) ∧ (IsPairs B w nv r.nicks ∧ Proper nv) ∧ (IsPairs B w sv r.streets ∧ Proper sv)
theorem IsRulesP.plain {B : Nat} {w : World} {v : Value} {r : RL} (h : IsRulesP B w v r) : IsRules B w v r := by
  obtain ⟨tv, nv, sv, rfl, h1, h2, h3⟩ := h
  exact ⟨_, _, _, rfl, h1.1, h2.1, h3.1⟩
theorem IsRulesP.off {B : Nat} {w w' : World} {v : Value} {r : RL} (h : IsRulesP B w v r) (hb : ∀ b o s, b < B → w.cell? ⟨b, o, none⟩ = some (.string s) → w'.cell? ⟨b, o, none⟩ = some (.string s)) : IsRulesP B w' v r := by
  obtain ⟨tv, nv, sv, rfl, h1, h2, h3⟩ := h
  exact ⟨tv, nv, sv, rfl, ⟨h1.1.off hb, h1.2⟩, ⟨h2.1.off hb, h2.2⟩, ⟨h3.1.off hb, h3.2⟩⟩
theorem IsRulesP.more {B B' : Nat} {w : World} {v : Value} {r : RL} (h : IsRulesP B w v r) (hb : B ≤ B') : IsRulesP B' w v r := by
  obtain ⟨tv, nv, sv, rfl, h1, h2, h3⟩ := h
  exact ⟨tv, nv, sv, rfl, ⟨h1.1.more hb, h1.2⟩, ⟨h2.1.more hb, h2.2⟩, ⟨h3.1.more hb, h3.2⟩⟩
/-- Rules under way: the result's block b, still empty, and the block behind it. -/
def RulesAt (b p : Nat) (W : World) (r : RL) : Prop := b < p ∧ W.heap[b]? = some (.cells #[.slice none 0 0, .slice none 0 0, .slice none 0 0] 30 (0, 0)) ∧
  ∃ tv nv sv, W.heap[p]? = some (.cells #[tv, nv, sv] 30 (0, 0)) ∧ (IsTexts W.heap.size W tv r.titles ∧ Proper tv) ∧ (IsPairs W.heap.size W nv r.nicks ∧ Proper nv) ∧ (IsPairs W.heap.size W sv r.streets ∧ Proper sv)

theorem IsTexts.slice {B : Nat} {w : World} {v : Value} {xs : List ByteArray} (h : IsTexts B w v xs) : ∀ s, v ≠ .string s := by
  obtain ⟨a, c, rfl, _⟩ := h; simp
theorem IsPairs.slice {B : Nat} {w : World} {v : Value} {xs : List (ByteArray × ByteArray)} (h : IsPairs B w v xs) : ∀ s, v ≠ .string s := by
  obtain ⟨a, c, rfl, _⟩ := h; simp

def titlesL : List ByteArray := [⟨#[100, 114]⟩, ⟨#[118, 97, 110]⟩]
def nicksL : List (ByteArray × ByteArray) := [(⟨#[97, 110, 110, 97]⟩, ⟨#[97, 110, 110]⟩), (⟨#[98, 111, 98]⟩, ⟨#[114, 111, 98, 101, 114, 116]⟩)]
def streetsL : List (ByteArray × ByteArray) := [(⟨#[114, 100]⟩, ⟨#[114, 111, 97, 100]⟩), (⟨#[115, 116]⟩, ⟨#[115, 116, 114, 101, 101, 116]⟩)]
def Dealt (r : RL) : Prop := (r.titles = [] ∨ r.titles = titlesL) ∧ (r.nicks = [] ∨ r.nicks = nicksL) ∧ (r.streets = [] ∨ r.streets = streetsL)
def pairCells (ps : List (ByteArray × ByteArray)) : List Value := ps.flatMap fun p => [.string p.1, .string p.2]
theorem pairs_lit (w : World) (ps : List (ByteArray × ByteArray)) (h : ps.length ≤ maxLen) : IsPairs (w.heap.size + 1) (w.alloc (.cells (pairCells ps).toArray 46)) (.slice (some ⟨w.heap.size, 0, none⟩) ps.length ps.length) ps := by
  have key : ∀ (ps : List (ByteArray × ByteArray)) (j : Nat) (hj : j < ps.length), (pairCells ps)[j * 2]? = some (.string ps[j].1) ∧ (pairCells ps)[j * 2 + 1]? = some (.string ps[j].2) := by
    intro ps
    induction ps with
    | nil => intro j hj; simp at hj
    | cons a t ih =>
      intro j hj
      cases j with
      | zero => exact ⟨rfl, rfl⟩
      | succ k =>
        have := ih k (by simpa using hj)
        have e1 : (k + 1) * 2 = k * 2 + 1 + 1 := by omega
        rw [e1]
        exact this
  refine ⟨_, _, rfl, Nat.le_refl _, h, .inr ⟨_, _, rfl, Nat.lt_succ_self _, fun j hj => ?_⟩⟩
  rw [cell_of_row _ _ _ _ _ _ (heap_alloc_new w _), cell_of_row _ _ _ _ _ _ (heap_alloc_new w _)]
  have := key ps j hj
  simpa using this

theorem RulesAt.grown {b p g : Nat} {W W' : World} {r : RL} (h : RulesAt b p W r) (hd : Deck g W) (hg : g < b) (hb : W.grownBy W' (some g)) : RulesAt b p W' r := by
  obtain ⟨hbp, h0, tv, nv, sv, h1, h2, h3, h4⟩ := h
  have l1 := (Array.getElem?_eq_some_iff.1 h1).1
  refine ⟨hbp, (hb.block b (by omega) (fun e => by injection e; omega)).trans h0, tv, nv, sv, (hb.block p l1 (fun e => by injection e; omega)).trans h1, ⟨?_, h2.2⟩, ⟨?_, h3.2⟩, ⟨?_, h4.2⟩⟩
  · exact (h2.1.grown hd hb (Nat.le_refl _)).more hb.size
  · exact (h3.1.grown hd hb (Nat.le_refl _)).more hb.size
  · exact (h4.1.grown hd hb (Nat.le_refl _)).more hb.size
theorem RulesAt.below {b p : Nat} {W W' : World} {r : RL} (h : RulesAt b p W r) (hb : Below W.heap.size W W') : RulesAt b p W' r := by
  obtain ⟨hbp, h0, tv, nv, sv, h1, h2, h3, h4⟩ := h
  have l1 := (Array.getElem?_eq_some_iff.1 h1).1
  exact ⟨hbp, (hb.block b (by omega)).trans h0, tv, nv, sv, (hb.block p l1).trans h1, ⟨(h2.1.keep hb).more hb.size, h2.2⟩, ⟨(h3.1.keep hb).more hb.size, h3.2⟩, ⟨(h4.1.keep hb).more hb.size, h4.2⟩⟩
theorem Deck.set {g p o : Nat} {W : World} {u : Value} (h : Deck g W) (hp : g < p) : Deck g (W.setCell ⟨p, o, none⟩ u) := h.keep fun j hj => Below.heap_setCell W ⟨p, o, none⟩ u j (by show j ≠ p; omega)
theorem grown_set2 {a w : World} {g p o : Nat} {u : Value} (h : a.grownBy w (some g)) (hp : a.heap.size ≤ p) : a.grownBy (w.setCell ⟨p, o, none⟩ u) (some g) :=
  ⟨h.os, h.tape, h.output, by simpa [World.setCell] using h.size, fun i hi hn => (Below.heap_setCell w ⟨p, o, none⟩ u i (by show i ≠ p; omega)).trans (h.block i hi hn)⟩
theorem size_set (W : World) (p o : Nat) (u : Value) : (W.setCell ⟨p, o, none⟩ u).heap.size = W.heap.size := by simp [World.setCell]
theorem RulesAt.setTitles {b p : Nat} {W : World} {r : RL} {v : Value} {xs : List ByteArray} (h : RulesAt b p W r) (hv : IsTexts W.heap.size W v xs) (hp : Proper v) : RulesAt b p (W.setCell ⟨p, 0, none⟩ v) ⟨xs, r.nicks, r.streets⟩ := by
  obtain ⟨hbp, h0, tv, nv, sv, h1, h2, h3, h4⟩ := h
  have ho := off_set (B := W.heap.size) (o := 0) (u := v) h1 h2.1.slice h3.1.slice h4.1.slice
  refine ⟨hbp, (Below.heap_setCell W _ v b (by show b ≠ p; omega)).trans h0, v, nv, sv, cells_set h1 0 v, ⟨?_, hp⟩, ⟨?_, h3.2⟩, ⟨?_, h4.2⟩⟩ <;> rw [size_set]
  · exact hv.off ho
  · exact h3.1.off ho
  · exact h4.1.off ho
theorem RulesAt.setNicks {b p : Nat} {W : World} {r : RL} {v : Value} {xs : List (ByteArray × ByteArray)} (h : RulesAt b p W r) (hv : IsPairs W.heap.size W v xs) (hp : Proper v) : RulesAt b p (W.setCell ⟨p, 1, none⟩ v) ⟨r.titles, xs, r.streets⟩ := by
  obtain ⟨hbp, h0, tv, nv, sv, h1, h2, h3, h4⟩ := h
  have ho := off_set (B := W.heap.size) (o := 1) (u := v) h1 h2.1.slice h3.1.slice h4.1.slice
  refine ⟨hbp, (Below.heap_setCell W _ v b (by show b ≠ p; omega)).trans h0, tv, v, sv, cells_set h1 1 v, ⟨?_, h2.2⟩, ⟨?_, hp⟩, ⟨?_, h4.2⟩⟩ <;> rw [size_set]
  · exact h2.1.off ho
  · exact hv.off ho
  · exact h4.1.off ho
theorem RulesAt.setStreets {b p : Nat} {W : World} {r : RL} {v : Value} {xs : List (ByteArray × ByteArray)} (h : RulesAt b p W r) (hv : IsPairs W.heap.size W v xs) (hp : Proper v) : RulesAt b p (W.setCell ⟨p, 2, none⟩ v) ⟨r.titles, r.nicks, xs⟩ := by
  obtain ⟨hbp, h0, tv, nv, sv, h1, h2, h3, h4⟩ := h
  have ho := off_set (B := W.heap.size) (o := 2) (u := v) h1 h2.1.slice h3.1.slice h4.1.slice
  refine ⟨hbp, (Below.heap_setCell W _ v b (by show b ≠ p; omega)).trans h0, tv, nv, v, cells_set h1 2 v, ⟨?_, h2.2⟩, ⟨?_, h3.2⟩, ⟨?_, hp⟩⟩ <;> rw [size_set]
  · exact h2.1.off ho
  · exact h3.1.off ho
  · exact hv.off ho
theorem below_alloc (W : World) (o : Obj) : Below W.heap.size W (W.alloc o) := (Below.refl _ W).alloc (Nat.le_refl _) o
theorem RulesAt.lt {b p : Nat} {W : World} {r : RL} (h : RulesAt b p W r) : p < W.heap.size := by
  obtain ⟨-, -, _, _, _, h1, -⟩ := h
  exact (Array.getElem?_eq_some_iff.1 h1).1
/-- A literal that is stored: the walk has the block behind the store. -/
theorem RulesAt.titles {b p : Nat} {W : World} {r : RL} (h : RulesAt b p W r) (xs : List ByteArray) (hl : xs.length ≤ 1000) :
    RulesAt b p ((W.setCell ⟨p, 0, none⟩ (.slice (some ⟨W.heap.size, 0, none⟩) xs.length xs.length)).alloc (.cells (xs.map Value.string).toArray 9)) ⟨xs, r.nicks, r.streets⟩ := by
  have hs := (h.below (below_alloc W (.cells (xs.map Value.string).toArray 9))).setTitles ((texts_lit W xs (by unfold maxLen; omega)).more (by simp)) (proper_some _ _ _)
  rw [World.setCell_alloc_past _ _ _ _ h.lt] at hs
  exact hs
theorem RulesAt.nicks {b p : Nat} {W : World} {r : RL} (h : RulesAt b p W r) (xs : List (ByteArray × ByteArray)) (hl : xs.length ≤ 1000) :
    RulesAt b p ((W.setCell ⟨p, 1, none⟩ (.slice (some ⟨W.heap.size, 0, none⟩) xs.length xs.length)).alloc (.cells (pairCells xs).toArray 46)) ⟨r.titles, xs, r.streets⟩ := by
  have hs := (h.below (below_alloc W (.cells (pairCells xs).toArray 46))).setNicks ((pairs_lit W xs (by unfold maxLen; omega)).more (by simp)) (proper_some _ _ _)
  rw [World.setCell_alloc_past _ _ _ _ h.lt] at hs
  exact hs
theorem RulesAt.streets {b p : Nat} {W : World} {r : RL} (h : RulesAt b p W r) (xs : List (ByteArray × ByteArray)) (hl : xs.length ≤ 1000) :
    RulesAt b p ((W.setCell ⟨p, 2, none⟩ (.slice (some ⟨W.heap.size, 0, none⟩) xs.length xs.length)).alloc (.cells (pairCells xs).toArray 46)) ⟨r.titles, r.nicks, xs⟩ := by
  have hs := (h.below (below_alloc W (.cells (pairCells xs).toArray 46))).setStreets ((pairs_lit W xs (by unfold maxLen; omega)).more (by simp)) (proper_some _ _ _)
  rw [World.setCell_alloc_past _ _ _ _ h.lt] at hs
  exact hs
/-- What the walk is told. -/
theorem RulesAt.cells {b p : Nat} {W : World} {r : RL} (h : RulesAt b p W r) : p < W.heap.size ∧ (∀ i, W.frozen? ⟨p, i, none⟩ = false) ∧ (∀ i, W.frozen? ⟨b, i, none⟩ = false) ∧
    ∃ tv nv sv, IsRulesP W.heap.size W (.agg #[tv, nv, sv]) r ∧ W.cell? ⟨p, 0, none⟩ = some tv ∧ W.cell? ⟨p, 1, none⟩ = some nv ∧ W.cell? ⟨p, 2, none⟩ = some sv ∧
      W.cell? ⟨b, 0, none⟩ = some (.slice none 0 0) ∧ W.cell? ⟨b, 1, none⟩ = some (.slice none 0 0) ∧ W.cell? ⟨b, 2, none⟩ = some (.slice none 0 0) := by
  obtain ⟨-, h0, tv, nv, sv, h1, h2, h3, h4⟩ := h
  refine ⟨(Array.getElem?_eq_some_iff.1 h1).1, fun i => Lib.frozen_of_heap h1 i, fun i => Lib.frozen_of_heap h0 i, tv, nv, sv, ⟨tv, nv, sv, rfl, h2, h3, h4⟩, ?_, ?_, ?_, ?_, ?_, ?_⟩
  · rw [Lib.cell_of_heap h1]; rfl
  · rw [Lib.cell_of_heap h1]; rfl
  · rw [Lib.cell_of_heap h1]; rfl
  · rw [Lib.cell_of_heap h0]; rfl
  · rw [Lib.cell_of_heap h0]; rfl
  · rw [Lib.cell_of_heap h0]; rfl

theorem slice_ne (a : Option Addr) (n c : Nat) : ∀ s, Value.slice a n c ≠ .string s := by simp
/-- The result's block, written. -/
theorem RulesAt.final {b p g : Nat} {w W : World} {r : RL} {tv nv sv : Value} (h : RulesAt b p W r) (hd : Deck g W) (hgb : g < b) (hw : w.heap.size ≤ b) (hg : w.grownBy W (some g))
    (c0 : W.cell? ⟨p, 0, none⟩ = some tv) (c1 : W.cell? ⟨p, 1, none⟩ = some nv) (c2 : W.cell? ⟨p, 2, none⟩ = some sv) (F : World) (hF : F = ((W.setCell ⟨b, 0, none⟩ tv).setCell ⟨b, 1, none⟩ nv).setCell ⟨b, 2, none⟩ sv) :
    IsRulesP F.heap.size F (.agg #[tv, nv, sv]) r ∧ Deck g F ∧ w.grownBy F (some g) := by
  subst hF
  obtain ⟨-, h0, tv', nv', sv', h1, h2, h3, h4⟩ := h
  rw [Lib.cell_of_heap h1] at c0 c1 c2
  obtain rfl : tv' = tv := by simpa using c0
  obtain rfl : nv' = nv := by simpa using c1
  obtain rfl : sv' = sv := by simpa using c2
  have r0 : IsRulesP W.heap.size W (.agg #[tv', nv', sv']) r := ⟨_, _, _, rfl, h2, h3, h4⟩
  have r1 := r0.off (off_set (B := W.heap.size) (o := 0) (u := tv') h0 (slice_ne _ _ _) (slice_ne _ _ _) (slice_ne _ _ _))
  have r2 := r1.off (off_set (B := W.heap.size) (o := 1) (u := nv') (cells_set h0 0 tv') h2.1.slice (slice_ne _ _ _) (slice_ne _ _ _))
  have r3 := r2.off (off_set (B := W.heap.size) (o := 2) (u := sv') (cells_set (cells_set h0 0 tv') 1 nv') h2.1.slice h3.1.slice (slice_ne _ _ _))
  refine ⟨?_, ((hd.set hgb).set hgb).set hgb, grown_set2 (grown_set2 (grown_set2 hg hw) hw) hw⟩
  rw [size_set, size_set, size_set]
  exact r3
/-- .. where a last literal was stored just ahead. -/
theorem RulesAt.final2 {b p g : Nat} {w W : World} {r : RL} {tv nv sv : Value} (h : RulesAt b p W r) (hd : Deck g W) (hgb : g < b) (hw : w.heap.size ≤ b) (hg : w.grownBy W (some g))
    (c0 : W.cell? ⟨p, 0, none⟩ = some tv) (c1 : W.cell? ⟨p, 1, none⟩ = some nv) (_c2 : W.cell? ⟨p, 2, none⟩ = some sv) (F : World)
    (hF : F = ((((W.setCell ⟨p, 2, none⟩ (.slice (some ⟨W.heap.size, 0, none⟩) 2 2)).setCell ⟨b, 0, none⟩ tv).setCell ⟨b, 1, none⟩ nv).setCell ⟨b, 2, none⟩ (.slice (some ⟨W.heap.size, 0, none⟩) 2 2)).alloc (.cells (pairCells streetsL).toArray 46)) :
    IsRulesP F.heap.size F (.agg #[tv, nv, .slice (some ⟨W.heap.size, 0, none⟩) 2 2]) ⟨r.titles, r.nicks, streetsL⟩ ∧ Deck g F ∧ w.grownBy F (some g) := by
  have hl := h.lt
  have hbp := h.1
  have hs := h.streets streetsL (by decide)
  rw [show streetsL.length = 2 from rfl] at hs
  have hd' : Deck g ((W.setCell ⟨p, 2, none⟩ (.slice (some ⟨W.heap.size, 0, none⟩) 2 2)).alloc (.cells (pairCells streetsL).toArray 46)) := (hd.set (p := p) (o := 2) (u := .slice (some ⟨W.heap.size, 0, none⟩) 2 2) (by omega)).alloc _
  have hg' : w.grownBy ((W.setCell ⟨p, 2, none⟩ (.slice (some ⟨W.heap.size, 0, none⟩) 2 2)).alloc (.cells (pairCells streetsL).toArray 46)) (some g) := grown_alloc (grown_set2 (p := p) (o := 2) (u := .slice (some ⟨W.heap.size, 0, none⟩) 2 2) hg (by omega)) _
  have e0 : ((W.setCell ⟨p, 2, none⟩ (.slice (some ⟨W.heap.size, 0, none⟩) 2 2)).alloc (.cells (pairCells streetsL).toArray 46)).cell? ⟨p, 0, none⟩ = some tv ∧
      ((W.setCell ⟨p, 2, none⟩ (.slice (some ⟨W.heap.size, 0, none⟩) 2 2)).alloc (.cells (pairCells streetsL).toArray 46)).cell? ⟨p, 1, none⟩ = some nv ∧
      ((W.setCell ⟨p, 2, none⟩ (.slice (some ⟨W.heap.size, 0, none⟩) 2 2)).alloc (.cells (pairCells streetsL).toArray 46)).cell? ⟨p, 2, none⟩ = some (.slice (some ⟨W.heap.size, 0, none⟩) 2 2) := by
    obtain ⟨-, h0, tv', nv', sv', h1, -, -, -⟩ := h
    rw [Lib.cell_of_heap h1] at c0 c1
    obtain rfl : tv' = tv := by simpa using c0
    obtain rfl : nv' = nv := by simpa using c1
    have hh : ((W.setCell ⟨p, 2, none⟩ (.slice (some ⟨W.heap.size, 0, none⟩) 2 2)).alloc (.cells (pairCells streetsL).toArray 46)).heap[p]? = some (.cells #[tv', nv', .slice (some ⟨W.heap.size, 0, none⟩) 2 2] 30 (0, 0)) := by
      rw [Below.heap_alloc _ _ _ (by rw [size_set]; exact hl)]
      exact cells_set h1 2 _
    rw [Lib.cell_of_heap hh, Lib.cell_of_heap hh, Lib.cell_of_heap hh]
    exact ⟨rfl, rfl, rfl⟩
  have := RulesAt.final (w := w) hs hd' hgb hw hg' e0.1 e0.2.1 e0.2.2 F (by
    rw [World.setCell_alloc_past _ _ _ _ (by rw [size_set]; omega), World.setCell_alloc_past _ _ _ _ (by rw [size_set, size_set]; omega), World.setCell_alloc_past _ _ _ _ (by rw [size_set, size_set, size_set]; omega)]
    exact hF)
  exact this

set_option maxRecDepth 100000 in
set_option maxHeartbeats 4000000 in
theorem Rules_any (g : Nat) (w : World) (h : Deck g w) :
    Calls Tryd.prog 16 #[.pointer (some ⟨g, 0, none⟩)] w fun e w' => ∃ v r, e = .returned v ∧ IsRulesP w'.heap.size w' v r ∧ Dealt r ∧ Deck g w' ∧ w.grownBy w' (some g) := by
  have HD := Lib.hid h
  have hlt := h.lt
  clear h
  have hd0 := ((HD.out.alloc (.cells #[.slice none 0 0, .slice none 0 0, .slice none 0 0] 30)).alloc (.cells #[.slice none 0 0, .slice none 0 0, .slice none 0 0] 30))
  have hg0 := grown_alloc (grown_alloc (grown_refl w (some g)) (.cells #[.slice none 0 0, .slice none 0 0, .slice none 0 0] 30)) (.cells #[.slice none 0 0, .slice none 0 0, .slice none 0 0] 30)
  have hs0 : RulesAt w.heap.size (w.heap.size + 1) ((w.alloc (.cells #[.slice none 0 0, .slice none 0 0, .slice none 0 0] 30)).alloc (.cells #[.slice none 0 0, .slice none 0 0, .slice none 0 0] 30)) ⟨[], [], []⟩ := by
    refine ⟨by omega, ?_, .slice none 0 0, .slice none 0 0, .slice none 0 0, ?_, ⟨⟨none, 0, rfl, Nat.le_refl _, Nat.zero_le _, .inl rfl⟩, proper_nil⟩, ⟨⟨none, 0, rfl, Nat.le_refl _, Nat.zero_le _, .inl rfl⟩, proper_nil⟩, ⟨⟨none, 0, rfl, Nat.le_refl _, Nat.zero_le _, .inl rfl⟩, proper_nil⟩⟩
    · rw [Below.heap_alloc _ _ _ (by simp), heap_alloc_new]
    · have := heap_alloc_new (w.alloc (.cells #[.slice none 0 0, .slice none 0 0, .slice none 0 0] 30)) (.cells #[.slice none 0 0, .slice none 0 0, .slice none 0 0] 30)
      simpa using this
  have HS0 := Lib.hid hs0
  have HG0 := Lib.hid hg0
  have HD0 := Lib.hid hd0
  clear hs0 hg0 hd0
  go_enter Tryd.func16, Tryd.ntmps16
  go_wp2_with fail
  refine (One_any g _ HD0.out 2 (by omega) (by omega)).mono ?_
  rintro e w1 ⟨b1, rfl, hd1, hg1⟩
  have HS1 := Lib.hid (HS0.out.grown HD0.out hlt hg1)
  have HD1 := Lib.hid hd1
  have HG1 := Lib.hid (grown_trans HG0.out hg1)
  clear hd1 hg1
  obtain ⟨l1, f1, f0, tv, nv, sv, hr, c0, c1, c2, d0, d1, d2⟩ := HS1.out.cells
  clear hr
  have f10 := f1 0
  clear f1 f0 d0 d1 d2
  cases b1
  case' false =>
    go_wp2_with fail
    have HR2 := Lib.hid (show Dealt ⟨[], [], []⟩ from ⟨.inl rfl, .inl rfl, .inl rfl⟩)
    have HS2 := HS1
    have HD2 := HD1
    have HG2 := HG1
  case' true =>
    go_wp2_with fail
    have HR2 := Lib.hid (show Dealt ⟨titlesL, [], []⟩ from ⟨.inr rfl, .inl rfl, .inl rfl⟩)
    have HS2 := Lib.hid (HS1.out.titles titlesL (by decide))
    have HD2 := Lib.hid ((HD1.out.set (p := w.heap.size + 1) (o := 0) (u := .slice (some ⟨w1.heap.size, 0, none⟩) titlesL.length titlesL.length) (by omega)).alloc (.cells (titlesL.map Value.string).toArray 9))
    have HG2 := Lib.hid (grown_alloc (grown_set2 (p := w.heap.size + 1) (o := 0) (u := .slice (some ⟨w1.heap.size, 0, none⟩) titlesL.length titlesL.length) HG1.out (by omega)) (.cells (titlesL.map Value.string).toArray 9))
  all_goals
    clear HS1 HD1 HG1 c0 c1 c2 f10 l1
    refine (One_any g _ HD2.out 2 (by omega) (by omega)).mono ?_
    rintro e w3 ⟨b3, rfl, hd3, hg3⟩
    have HS3 := Lib.hid (HS2.out.grown HD2.out hlt hg3)
    have HD3 := Lib.hid hd3
    have HG3 := Lib.hid (grown_trans HG2.out hg3)
    clear hd3 hg3 HS2 HD2 HG2
    obtain ⟨l1, f1, f0, tv, nv, sv, hr, c0, c1, c2, d0, d1, d2⟩ := HS3.out.cells
    clear hr
    have f10 := f1 1
    clear f1 f0 d0 d1 d2
    cases b3
    case' false =>
      go_wp2_with fail
      have HR4 := HR2
      have HS4 := HS3
      have HD4 := HD3
      have HG4 := HG3
    case' true =>
      go_wp2_with fail
      have HR4 := Lib.hid (show Dealt ⟨_, nicksL, []⟩ from ⟨HR2.out.1, .inr rfl, .inl rfl⟩)
      have HS4 := Lib.hid (HS3.out.nicks nicksL (by decide))
      have HD4 := Lib.hid ((HD3.out.set (p := w.heap.size + 1) (o := 1) (u := .slice (some ⟨w3.heap.size, 0, none⟩) nicksL.length nicksL.length) (by omega)).alloc (.cells (pairCells nicksL).toArray 46))
      have HG4 := Lib.hid (grown_alloc (grown_set2 (p := w.heap.size + 1) (o := 1) (u := .slice (some ⟨w3.heap.size, 0, none⟩) nicksL.length nicksL.length) HG3.out (by omega)) (.cells (pairCells nicksL).toArray 46))
    all_goals
      clear HS3 HD3 HG3 c0 c1 c2 f10 l1
      refine (One_any g _ HD4.out 2 (by omega) (by omega)).mono ?_
      rintro e w5 ⟨b5, rfl, hd5, hg5⟩
      have HS5 := Lib.hid (HS4.out.grown HD4.out hlt hg5)
      have HD5 := Lib.hid hd5
      have HG5 := Lib.hid (grown_trans HG4.out hg5)
      clear hd5 hg5 HS4 HD4 HG4
      obtain ⟨l1, f1, f0, tv, nv, sv, hr, c0, c1, c2, d0, d1, d2⟩ := HS5.out.cells
      have HRu := Lib.hid hr
      obtain ⟨tv', nv', sv', he, k1, k2, k3⟩ := hr
      obtain ⟨rfl, rfl, rfl⟩ : tv = tv' ∧ nv = nv' ∧ sv = sv' := by simpa using he
      obtain ⟨⟨ta, tc, rfl, -, -, -⟩, -⟩ := k1
      obtain ⟨⟨na, nc, rfl, -, -, -⟩, -⟩ := k2
      obtain ⟨⟨sa, sc, rfl, -, -, -⟩, -⟩ := k3
      clear he
      have f10 := f1 2
      have f00 := f0 0
      have f01 := f0 1
      have f02 := f0 2
      clear f1 f0
      have hb5 : w.heap.size < w5.heap.size := by omega
      have hb6 : w.heap.size ≠ w5.heap.size := by omega
      have hb7 : w.heap.size + 1 ≠ w5.heap.size := by omega
      cases b5
      · have HF := Lib.hid (fun F => HS5.out.final HD5.out hlt (Nat.le_refl _) HG5.out c0 c1 c2 F)
        go_wp2
        obtain ⟨k1, k2, k3⟩ := HF.out _ rfl
        exact bodyPost_ret (v := .agg #[.slice ta _ tc, .slice na _ nc, .slice sa _ sc]) (by simp [results, Tryd.results16, go_sem, d0, d1, d2]) rfl ⟨_, _, rfl, k1, HR4.out, k2, k3⟩
      · have HF := Lib.hid (fun F => HS5.out.final2 HD5.out hlt (Nat.le_refl _) HG5.out c0 c1 c2 F)
        go_wp2
        obtain ⟨k1, k2, k3⟩ := HF.out _ rfl
        exact bodyPost_ret (v := .agg #[.slice ta _ tc, .slice na _ nc, .slice (some ⟨w5.heap.size, 0, none⟩) 2 2]) (by simp [results, Tryd.results16, go_sem, d0, d1, d2, hb5]) rfl ⟨_, _, rfl, k1, ⟨HR4.out.1, HR4.out.2.1, .inr rfl⟩, k2, k3⟩
end Go.Proofs.YthplnfblpdojkaaDoor
