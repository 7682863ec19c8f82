/- Rows of words that a call builds. -/
import Derived.Test.YtfcnodiepdnegaaBitRef
import Derived.Laws.AppendOwnNone
import Derived.Deep.RegionLaw
namespace Go.Proofs.Ytfcnodiepdnegaa
open Go.RowKit
set_option linter.unusedVariables false
set_option maxRecDepth 100000

/-- A word as a value. -/
abbrev wordV (x : UInt64) : Value := .int .u64 (n64 x)
def Proper (v : Value) : Prop := ∀ n c, v = .slice none n c → n = 0 ∧ c = 0
theorem proper_some (a : Addr) (n c : Nat) : Proper (.slice (some a) n c) := fun _ _ h => by cases h
theorem proper_nil : Proper (.slice none 0 0) := fun _ _ h => by cases h; exact ⟨rfl, rfl⟩
theorem owns_at {base n k q : Nat} {T : TypeId} {w : World} {v : Value} {cs : List Value} (h : w.ownsRow base T k v n cs) (hq : v.ownBlock = some q) : base ≤ q ∧ q < w.heap.size := by
  rcases h.2 with ⟨rfl, -⟩ | ⟨g, cap, cur, rfl, hbg, hg, -⟩
  · cases hq
  · obtain rfl : g = q := by simpa [Value.ownBlock] using hq
    exact ⟨hbg, (Array.getElem?_eq_some_iff.1 hg).1⟩
theorem owns_grown {base n k : Nat} {T : TypeId} {w w' : World} {v : Value} {cs : List Value} {x : Option Nat} (h : w.ownsRow base T k v n cs) (hg : w.grownBy w' x) (hne : ∀ q, x = some q → v.ownBlock ≠ some q) : w'.ownsRow base T k v n cs := by
  refine ⟨h.1, ?_⟩
  rcases h.2 with h2 | ⟨g, cap, cur, rfl, hbg, hh, hrest⟩
  · exact .inl h2
  · exact .inr ⟨g, cap, cur, rfl, hbg, (hg.block g (Array.getElem?_eq_some_iff.1 hh).1 (fun e => hne g e.symm rfl)).trans hh, hrest⟩
theorem grown_own {a w w' : World} {g : Nat} {x : Option Nat} (h : a.grownBy w (some g)) (k : w.grownBy w' x) (hx : ∀ q, x = some q → a.heap.size ≤ q) : a.grownBy w' (some g) :=
  ⟨k.os.trans h.os, k.tape.trans h.tape, k.output.trans h.output, Nat.le_trans h.size k.size, fun i hi hn => (k.block i (Nat.lt_of_lt_of_le hi h.size) (fun e => by have := hx i e.symm; omega)).trans (h.block i hi hn)⟩
theorem Deck.own {w w' : World} {g : Nat} {x : Option Nat} (h : Deck g w) (k : w.grownBy w' x) (hx : ∀ q, x = some q → g < q) : Deck g w' :=
  h.keep fun j hj => k.block j (Nat.lt_of_le_of_lt hj h.lt) (fun e => by have := hx j e.symm; omega)
theorem proper_own {base n k : Nat} {T : TypeId} {w : World} {v : Value} {cs : List Value} (h : w.ownsRow base T k v n cs) : Proper v := by
  rcases h.2 with ⟨rfl, -⟩ | ⟨g, cap, cur, rfl, -⟩
  · exact proper_nil
  · exact proper_some _ _ _
theorem addr_add (b off j : Nat) : (⟨b, off, none⟩ : Addr).add j = ⟨b, off + j, none⟩ := by unfold Addr.add; split <;> simp_all
theorem wpList_append_words {ops : Array Oper} {rest : List Oper} {o : Oper} {a : Act} {Q : Exit → Act → World → Prop} {w : World} (hgd : o.guard = none) (s x : Operand)
    (ho : o.op = .call { callee := .builtin .append, args := #[s, x], argTypes := #[23, 23] }) (base : Nat) (hbase : base ≤ w.heap.size)
    (v : Value) (ys : List UInt64) (hs : a.eval s = v) (hown : w.ownsRow base 51 1 v ys.length (ys.map wordV))
    (B : Nat) (xv : Value) (xs : List UInt64) (hx : a.eval x = xv) (hX : IsWs B w xv xs) (hP : Proper xv) (hlen : ys.length + xs.length ≤ 1000)
    (h : ∀ v' w', w'.ownsRow base 51 1 v' (ys ++ xs).length ((ys ++ xs).map wordV) → w.grownBy w' v.ownBlock → wpList Try.prog ops Q rest (a.put o.dst v') w') : wpList Try.prog ops Q (o :: rest) a w := by
  obtain ⟨i0, hi0, hz0, hz1, hz2⟩ := info_parts wordInfo
  by_cases hn : ∃ n c, xv = .slice none n c
  · obtain ⟨n, c, rfl⟩ := hn
    obtain ⟨rfl, rfl⟩ := hP n c rfl
    obtain ⟨a', c', hv, -, -, -⟩ := hX
    have h0 : xs = [] := by
      simp only [Value.slice.injEq] at hv
      exact List.eq_nil_of_length_eq_zero hv.2.1.symm
    subst h0
    refine wpList_append_own_none hgd s x 23 ho base 51 i0 1 Try.underlying23 hi0 v ys.length (ys.map wordV) hs hown hx ?_
    exact h v w (by simpa using hown) (grown_refl w _)
  · obtain ⟨ad, c, rfl, h1, h2, h3⟩ := hX
    cases ad with
    | none => exact absurd ⟨_, _, rfl⟩ hn
    | some ad =>
      refine wpList_append_own w hgd s x 23 ho base 51 i0 (.int .u64 0) 1 8 Try.underlying23 hi0 hz0 hz1 hz2 rfl (by decide) v ys.length (ys.map wordV) hs hown ad xs.length c (xs.map wordV) hx (by simp) ?_ (fun u hu => by
        obtain ⟨y, _, rfl⟩ := List.mem_map.1 hu; rfl) (by unfold maxLen; omega) (by omega) hbase ?_
      · intro j u hj
        rcases h3 with rfl | ⟨b, off, ha, -, hc⟩
        · simp at hj
        · obtain rfl : ad = ⟨b, off, none⟩ := by simpa using ha
          rw [List.getElem?_map] at hj
          obtain ⟨y, hy, rfl⟩ := Option.map_eq_some_iff.1 hj
          rw [addr_add]
          exact hc j y hy
      · intro v' w' hown' hgrow _
        exact h v' w' (by simpa using hown') hgrow
theorem wp_append_words {o : Oper} {a : Act} {K : Act → World → Prop} {Q : Exit → Act → World → Prop} {w : World} (s x : Operand)
    (ho : o.op = .call { callee := .builtin .append, args := #[s, x], argTypes := #[23, 23] }) (base : Nat) (hbase : base ≤ w.heap.size)
    (v : Value) (ys : List UInt64) (hs : a.eval s = v) (hown : w.ownsRow base 51 1 v ys.length (ys.map wordV))
    (B : Nat) (xv : Value) (xs : List UInt64) (hx : a.eval x = xv) (hX : IsWs B w xv xs) (hP : Proper xv) (hlen : ys.length + xs.length ≤ 1000)
    (h : ∀ v' w', w'.ownsRow base 51 1 v' (ys ++ xs).length ((ys ++ xs).map wordV) → w.grownBy w' v.ownBlock → K (a.put o.dst v') w') : Oper.wp Try.prog o a w K Q := by
  obtain ⟨i0, hi0, hz0, hz1, hz2⟩ := info_parts wordInfo
  by_cases hn : ∃ n c, xv = .slice none n c
  · obtain ⟨n, c, rfl⟩ := hn
    obtain ⟨rfl, rfl⟩ := hP n c rfl
    obtain ⟨a', c', hv, -, -, -⟩ := hX
    have h0 : xs = [] := by
      simp only [Value.slice.injEq] at hv
      exact List.eq_nil_of_length_eq_zero hv.2.1.symm
    subst h0
    have hrun := run_append_owned_none (P := Try.prog) (w := w) base 23 o.type 51 i0 1 Try.underlying23 hi0 v ys.length (ys.map wordV) hown
    unfold Oper.wp
    simp [execOp, ho, resolve, invoke, builtin, hs, hx, hrun, Result.andThen]
    exact h v w (by simpa using hown) (grown_refl w _)
  · obtain ⟨ad, c, rfl, h1, h2, h3⟩ := hX
    cases ad with
    | none => exact absurd ⟨_, _, rfl⟩ hn
    | some ad =>
      refine wp_append_own w s x 23 ho base 51 i0 (.int .u64 0) 1 8 Try.underlying23 hi0 hz0 hz1 hz2 rfl (by decide) v ys.length (ys.map wordV) hs hown ad xs.length c (xs.map wordV) hx (by simp) ?_ (fun u hu => by
        obtain ⟨y, _, rfl⟩ := List.mem_map.1 hu; rfl) (by unfold maxLen; omega) (by omega) hbase ?_
      · intro j u hj
        rcases h3 with rfl | ⟨b, off, ha, -, hc⟩
        · simp at hj
        · obtain rfl : ad = ⟨b, off, none⟩ := by simpa using ha
          rw [List.getElem?_map] at hj
          obtain ⟨y, hy, rfl⟩ := Option.map_eq_some_iff.1 hj
          rw [addr_add]
          exact hc j y hy
      · intro v' w' hown' hgrow _
        exact h v' w' (by simpa using hown') hgrow
theorem step_append_words {ops : Array Oper} {o : Oper} {a : Act} {K : Act → World → Prop} {Q : Exit → Act → World → Prop} {E : Prop} {w : World} (hgd : o.guard = none) (s x : Operand)
    (ho : o.op = .call { callee := .builtin .append, args := #[s, x], argTypes := #[23, 23] }) (base : Nat) (hbase : base ≤ w.heap.size)
    (v : Value) (ys : List UInt64) (hs : a.eval s = v) (hown : w.ownsRow base 51 1 v ys.length (ys.map wordV))
    (B : Nat) (xv : Value) (xs : List UInt64) (hx : a.eval x = xv) (hX : IsWs B w xv xs) (hP : Proper xv) (hlen : ys.length + xs.length ≤ 1000)
    (h : ∀ v' w', w'.ownsRow base 51 1 v' (ys ++ xs).length ((ys ++ xs).map wordV) → w.grownBy w' v.ownBlock → K (a.put o.dst v') w') :
    if Region.wanted o (yielded ops a.tmps) = true then Oper.wp Try.prog o a w K Q else E := by
  have hw : Region.wanted o (yielded ops a.tmps) = true := by simp [Region.wanted, hgd]
  rw [if_pos hw]
  exact wp_append_words s x ho base hbase v ys hs hown B xv xs hx hX hP hlen h
theorem words_one {w : World} {n : Nat} {s : UInt64} (h : w.cell? ⟨n, 0, none⟩ = some (.int .u64 (n64 s))) : IsWs (n + 1) w (.slice (some ⟨n, 0, none⟩) 1 1) [s] :=
  ⟨_, _, rfl, Nat.le_refl _, by simp [maxLen], .inr ⟨n, 0, rfl, Nat.lt_succ_self _, fun j x hx => by
    match j, hx with
    | 0, hx => simp at hx; subst hx; exact h⟩⟩
end Go.Proofs.Ytfcnodiepdnegaa
