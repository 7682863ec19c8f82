/- The walk of NameOrder. -/
import Derived.Test.YthplnfblpdojkaaDoorNameLaws1
import Derived.Deep.AppendLies
namespace Go.Proofs.YthplnfblpdojkaaDoor
open Go.RowKit
set_option linter.unusedVariables false
set_option maxRecDepth 100000

theorem owns_at {base n k q : Nat} {T : TypeId} {w : World} {v : Value} {cs : List Value} (h : w.ownsRow base T k v n cs) (hq : v.ownBlock = some q) : base ≤ q ∧ q < w.heap.size := by
  rcases h.2 with ⟨rfl, -⟩ | ⟨g, cap, cur, rfl, hbg, hg, -⟩
  · cases hq
  · obtain rfl : g = q := by simpa [Value.ownBlock] using hq
    exact ⟨hbg, (Array.getElem?_eq_some_iff.1 hg).1⟩
theorem owns_grown {base n k : Nat} {T : TypeId} {w w' : World} {v : Value} {cs : List Value} {x : Option Nat} (h : w.ownsRow base T k v n cs) (hg : w.grownBy w' x) (hne : ∀ q, x = some q → v.ownBlock ≠ some q) : w'.ownsRow base T k v n cs := by
  refine ⟨h.1, ?_⟩
  rcases h.2 with h2 | ⟨g, cap, cur, rfl, hbg, hh, hrest⟩
  · exact .inl h2
  · exact .inr ⟨g, cap, cur, rfl, hbg, (hg.block g (Array.getElem?_eq_some_iff.1 hh).1 (fun e => hne g e.symm rfl)).trans hh, hrest⟩
theorem grown_own {a w w' : World} {g : Nat} {x : Option Nat} (h : a.grownBy w (some g)) (k : w.grownBy w' x) (hx : ∀ q, x = some q → a.heap.size ≤ q) : a.grownBy w' (some g) :=
  ⟨k.os.trans h.os, k.tape.trans h.tape, k.output.trans h.output, Nat.le_trans h.size k.size, fun i hi hn => (k.block i (Nat.lt_of_lt_of_le hi h.size) (fun e => by have := hx i e.symm; omega)).trans (h.block i hi hn)⟩
theorem Deck.own {w w' : World} {g : Nat} {x : Option Nat} (h : Deck g w) (k : w.grownBy w' x) (hx : ∀ q, x = some q → g < q) : Deck g w' :=
  h.keep fun j hj => k.block j (Nat.lt_of_le_of_lt hj h.lt) (fun e => by have := hx j e.symm; omega)
theorem join_fine (ts : List ByteArray) (h : ∀ t ∈ ts, lowB t = true) : (joinB ts).data.toList.all TM.fine = true := by
  unfold joinB
  rw [list_bs]
  refine TM.join_all (by decide) _ (fun l hl => ?_)
  obtain ⟨t, ht, rfl⟩ := List.mem_map.1 hl
  exact low_fine (h t ht)
theorem join_words (ts : List ByteArray) (h : ∀ t ∈ ts, lowB t = true) : TM.words [] (joinB ts).data.toList = ts.map (·.data.toList) := by
  unfold joinB
  rw [list_bs]
  refine TM.words_join _ (fun l hl => ?_)
  obtain ⟨t, ht, rfl⟩ := List.mem_map.1 hl
  exact (lowB_lows (h t ht)).1.word_
theorem norm_join {r : RL} (h : Dealt r) (ts : List ByteArray) (hl : ∀ t ∈ ts, lowB t = true) (hlen : ts.length ≤ 6) : normVal r (joinB ts) = (joinB (keepB r ts), 0) :=
  norm_dealt h _ ts (join_fine ts hl) (by have := join_low ts hl hlen; omega) (join_words ts hl) hl hlen
theorem keep1_drop {r : RL} {t : ByteArray} (h : hasB r.titles t = true) : keep1 r t = [] := by unfold keep1; rw [h]; rfl
theorem keep1_stay {r : RL} {t : ByteArray} (h : hasB r.titles t = false) : keep1 r t = [canonB r.nicks t] := by unfold keep1; rw [h]; rfl

end Go.Proofs.YthplnfblpdojkaaDoor
