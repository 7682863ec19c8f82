/- The walk of NameNicknames. -/
import Derived.Test.YthplnfblpdojkaaGreatDoorNameLaw
namespace Go.Proofs.YthplnfblpdojkaaGreatDoor
open Go.RowKit
set_option linter.unusedVariables false
set_option maxRecDepth 100000

theorem Box.grown {W W' : World} {p g : Nat} {tv nv sv : Value} (h : Box W p tv nv sv) (hb : W.grownBy W' (some g)) (hp : p < W.heap.size) (hg : p ≠ g) : Box W' p tv nv sv := by
  have k : ∀ i, W'.cell? ⟨p, i, none⟩ = W.cell? ⟨p, i, none⟩ := fun i => World.cell?_of_block (a := ⟨p, i, none⟩) (w := W) (w' := W') (hb.block p hp (fun e => hg (by injection e)))
  exact ⟨(k 0).trans h.1, (k 1).trans h.2.1, (k 2).trans h.2.2⟩
theorem norm_spaced {r : RL} (h : Dealt r) (s : ByteArray) (ts : List ByteArray) (hd : s.data.toList = spacedL ts) (hs : s.size ≤ 64) (hl : ∀ t ∈ ts, lowB t = true) (hlen : ts.length ≤ 6) : normVal r s = (joinB (keepB r ts), 0) :=
  norm_dealt h s ts (by rw [hd]; exact spaced_fine ts hl) hs (by rw [hd]; exact words_spaced ts hl) hl hlen
theorem all_snoc {ts : List ByteArray} {t : ByteArray} (h : ∀ x ∈ ts, lowB x = true) (ht : lowB t = true) : ∀ x ∈ ts ++ [t], lowB x = true := by
  intro x hx
  rcases List.mem_append.1 hx with hx | hx
  · exact h x hx
  · obtain rfl : x = t := by simpa using hx
    exact ht

end Go.Proofs.YthplnfblpdojkaaGreatDoor
