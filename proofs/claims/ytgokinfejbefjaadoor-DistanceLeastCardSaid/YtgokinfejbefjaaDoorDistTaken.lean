/- The walk of the program's Script. -/
import Derived.Test.YtgokinfejbefjaaDoorDistComp
import Derived.Test.YtgokinfejbefjaaDoorDistChange
import Derived.Test.YtgokinfejbefjaaDoorDistRev
import Derived.Test.YtgokinfejbefjaaDoorDistScr2
namespace Go.Proofs.YtgokinfejbefjaaDoor
open Go.RowKit
set_option maxRecDepth 100000

def oldN : Nat → Nat
  | 0 => 1
  | 1 => 1
  | 2 => 1
  | 3 => 0
  | _ => 2
def newN : Nat → Nat
  | 0 => 1
  | 1 => 1
  | 2 => 0
  | 3 => 1
  | _ => 2
/-- The step that the script takes at i, k. -/
structure Taken (a b : ByteArray) (i k s : Nat) : Prop where
  lt : s < 5
  yes : cnd a b s i k = some (tabN a b i k)
  no : ∀ q, q < s → cnd a b q i k ≠ some (tabN a b i k)
  old : oldN s ≤ i
  new : newN s ≤ k
  scr : scrN a b i k = scrN a b (i - oldN s) (k - newN s) ++ (if s = 0 then [] else [chOf b s (i - oldN s) (k - newN s)])

theorem cnd_eq (a b : ByteArray) (s i k : Nat) : cnd a b s i k = DM.cand a.data.toList b.data.toList s i k := rfl
theorem cnd0 (a b : ByteArray) (i k : Nat) (hi : i < a.size) (hk : k < b.size) : cnd a b 0 (i + 1) (k + 1) = if a[i] = b[k] then some (tabN a b i k) else none := by
  unfold cnd DM.cand
  simp only [Nat.add_sub_cancel, byte_at a i hi, byte_at b k hk, Option.some.injEq]
  by_cases he : a[i] = b[k]
  · rw [if_pos ⟨by omega, by omega, he⟩, if_pos he]; rfl
  · rw [if_neg (fun h => he h.2.2), if_neg he]
theorem cnd1 (a b : ByteArray) (i k : Nat) : cnd a b 1 (i + 1) (k + 1) = some (tabN a b i k + 1) := by
  unfold cnd DM.cand
  simp only [Nat.add_sub_cancel]
  rw [if_pos ⟨by omega, by omega⟩]
  rfl
theorem cnd2 (a b : ByteArray) (i k : Nat) : cnd a b 2 (i + 1) k = some (tabN a b i k + 1) := by
  unfold cnd DM.cand
  simp only [Nat.add_sub_cancel]
  rw [if_pos (by omega)]
  rfl
theorem cnd3 (a b : ByteArray) (i k : Nat) : cnd a b 3 i (k + 1) = some (tabN a b i k + 1) := by
  unfold cnd DM.cand
  simp only [Nat.add_sub_cancel]
  rw [if_pos (by omega)]
  rfl
theorem cnd01_left (a b : ByteArray) (k : Nat) : cnd a b 0 0 k = none ∧ cnd a b 1 0 k = none ∧ cnd a b 2 0 k = none := by
  unfold cnd DM.cand
  exact ⟨if_neg (by omega), if_neg (by omega), if_neg (by omega)⟩
theorem cnd01_top (a b : ByteArray) (i : Nat) : cnd a b 0 i 0 = none ∧ cnd a b 1 i 0 = none := by
  unfold cnd DM.cand
  exact ⟨if_neg (by omega), if_neg (by omega)⟩
theorem getD_at (b : ByteArray) (k : Nat) (h : k < b.size) : b.data.toList.getD k 0 = b[k] := DM.getD_is _ _ (by simpa using h)

theorem taken_any (a b : ByteArray) (i k : Nat) (hi : i ≤ a.size) (hk : k ≤ b.size) (h0 : ¬ (i = 0 ∧ k = 0)) : ∃ s, Taken a b i k s := by
  match i, k with
  | 0, 0 => exact absurd ⟨rfl, rfl⟩ h0
  | 0, k + 1 =>
    obtain ⟨n0, n1, n2⟩ := cnd01_left a b (k + 1)
    refine ⟨3, by omega, ?_, ?_, Nat.zero_le _, Nat.le_add_left 1 k, ?_⟩
    · rw [cnd3, tabN_left a b k (by omega), tabN_left a b (k + 1) hk]
    · intro q hq
      obtain rfl | rfl | rfl : q = 0 ∨ q = 1 ∨ q = 2 := by omega
      · rw [n0]; simp
      · rw [n1]; simp
      · rw [n2]; simp
    · rw [scrN_left a b k (by omega)]
      show _ = scrN a b 0 k ++ [(1, ((0 : Nat) : Int), ((b.data.toList.getD k 0).toNat : Int))]
      rw [getD_at b k (by omega)]
      rfl
  | i + 1, 0 =>
    obtain ⟨n0, n1⟩ := cnd01_top a b (i + 1)
    refine ⟨2, by omega, ?_, ?_, Nat.le_add_left 1 i, Nat.zero_le _, ?_⟩
    · rw [cnd2, tabN_top a b i (by omega), tabN_top a b (i + 1) hi]
    · intro q hq
      obtain rfl | rfl : q = 0 ∨ q = 1 := by omega
      · rw [n0]; simp
      · rw [n1]; simp
    · rw [scrN_top a b i (by omega)]
      rfl
  | i + 1, k + 1 =>
    have e0 := cnd0 a b i k (by omega) (by omega)
    have e1 := cnd1 a b i k
    have e2 := cnd2 a b i (k + 1)
    have e3 := cnd3 a b (i + 1) k
    by_cases c0 : a[i]'(by omega) = b[k]'(by omega)
    · obtain ⟨h1, h2⟩ := scrN_same a b i k (by omega) (by omega) c0
      refine ⟨0, by omega, by rw [e0, if_pos c0, h2], fun q hq => absurd hq (Nat.not_lt_zero _), Nat.le_add_left 1 i, Nat.le_add_left 1 k, ?_⟩
      rw [h1, if_pos rfl, List.append_nil]
      rfl
    · rw [if_neg c0] at e0
      by_cases c1 : tabN a b (i + 1) (k + 1) = tabN a b i k + 1
      · refine ⟨1, by omega, by rw [e1, c1], ?_, Nat.le_add_left 1 i, Nat.le_add_left 1 k, ?_⟩
        · intro q hq
          obtain rfl : q = 0 := by omega
          rw [e0]; simp
        · rw [scrN_replace a b i k (by omega) (by omega) c0 c1]
          show _ = scrN a b i k ++ [(3, (i : Int), ((b.data.toList.getD k 0).toNat : Int))]
          rw [getD_at b k (by omega)]
      · by_cases c2 : tabN a b (i + 1) (k + 1) = tabN a b i (k + 1) + 1
        · refine ⟨2, by omega, by rw [e2, c2], ?_, Nat.le_add_left 1 i, Nat.zero_le _, ?_⟩
          · intro q hq
            obtain rfl | rfl : q = 0 ∨ q = 1 := by omega
            · rw [e0]; simp
            · rw [e1]; simp; omega
          · rw [scrN_delete a b i k (by omega) (by omega) c0 c1 c2]
            rfl
        · by_cases c3 : tabN a b (i + 1) (k + 1) = tabN a b (i + 1) k + 1
          · refine ⟨3, by omega, by rw [e3, c3], ?_, Nat.zero_le _, Nat.le_add_left 1 k, ?_⟩
            · intro q hq
              obtain rfl | rfl | rfl : q = 0 ∨ q = 1 ∨ q = 2 := by omega
              · rw [e0]; simp
              · rw [e1]; simp; omega
              · rw [e2]; simp; omega
            · rw [scrN_insert a b i k (by omega) (by omega) c0 c1 c2 c3]
              show _ = scrN a b (i + 1) k ++ [(1, ((i + 1 : Nat) : Int), ((b.data.toList.getD k 0).toNat : Int))]
              rw [getD_at b k (by omega)]
              rfl
          · obtain ⟨i', k', hi', hk', hs⟩ := scrN_swap a b i k (by omega) (by omega) c0 c1 c2 c3
            subst hi' hk'
            have hc : cnd a b 4 (i' + 1 + 1) (k' + 1 + 1) = some (tabN a b (i' + 1 + 1) (k' + 1 + 1)) := by
              have hall := accN_all a b (i' + 1 + 1) (k' + 1 + 1) hi hk
              have hle := DM.tab_max a.data.toList b.data.toList (i' + 1 + 1) (k' + 1 + 1)
              have s1 : accN a b (i' + 1 + 1) (k' + 1 + 1) 1 = accN a b (i' + 1 + 1) (k' + 1 + 1) 0 := accN_none e0
              have s2 : accN a b (i' + 1 + 1) (k' + 1 + 1) 2 = min (accN a b (i' + 1 + 1) (k' + 1 + 1) 1) (tabN a b (i' + 1) (k' + 1) + 1) := accN_some e1
              have s3 : accN a b (i' + 1 + 1) (k' + 1 + 1) 3 = min (accN a b (i' + 1 + 1) (k' + 1 + 1) 2) (tabN a b (i' + 1) (k' + 1 + 1) + 1) := accN_some e2
              have s4 : accN a b (i' + 1 + 1) (k' + 1 + 1) 4 = min (accN a b (i' + 1 + 1) (k' + 1 + 1) 3) (tabN a b (i' + 1 + 1) (k' + 1) + 1) := accN_some e3
              have s0 : accN a b (i' + 1 + 1) (k' + 1 + 1) 0 = (i' + 1 + 1) + (k' + 1 + 1) := rfl
              cases h4 : cnd a b 4 (i' + 1 + 1) (k' + 1 + 1) with
              | none =>
                have s5 : accN a b (i' + 1 + 1) (k' + 1 + 1) 5 = accN a b (i' + 1 + 1) (k' + 1 + 1) 4 := accN_none h4
                have hle' : tabN a b (i' + 1 + 1) (k' + 1 + 1) ≤ max (i' + 1 + 1) (k' + 1 + 1) := hle
                omega
              | some v =>
                have s5 : accN a b (i' + 1 + 1) (k' + 1 + 1) 5 = min (accN a b (i' + 1 + 1) (k' + 1 + 1) 4) v := accN_some h4
                have hle' : tabN a b (i' + 1 + 1) (k' + 1 + 1) ≤ max (i' + 1 + 1) (k' + 1 + 1) := hle
                congr 1
                omega
            refine ⟨4, by omega, hc, ?_, Nat.le_add_left 2 i', Nat.le_add_left 2 k', ?_⟩
            · intro q hq
              obtain rfl | rfl | rfl | rfl : q = 0 ∨ q = 1 ∨ q = 2 ∨ q = 3 := by omega
              · rw [e0]; simp
              · rw [e1]; simp; omega
              · rw [e2]; simp; omega
              · rw [e3]; simp; omega
            · rw [hs]
              rfl

theorem wpList_append_back' {ops : Array Oper} {rest : List Oper} {o : Oper} {a : Act} {Q : Exit → Act → World → Prop} {w : World} (hgd : o.guard = none) (s x : Operand)
    (ho : o.op = .call { callee := .builtin .append, args := #[s, x], argTypes := #[23, 23] }) (base : Nat) (hbase : base ≤ w.heap.size) (c : DM.Ch)
    (v : Value) (cs : List DM.Ch) (hs : a.eval s = v) (hX : OwnsCh base w v cs) (hx : a.eval x = .slice (some ⟨w.heap.size, 0, none⟩) 1 1) (hlen : cs.length ≤ 1000)
    (h : ∀ v' w', OwnsCh base w' v' (cs ++ [c]) → Below base w w' → (∀ q, q < w.heap.size → v.ownBlock ≠ some q → w'.heap[q]? = w.heap[q]?) → wpList Tryd.prog ops Q rest (a.put o.dst v') w') :
    wpList Tryd.prog ops Q (o :: rest) a (w.alloc (.cells #[.int .i64 c.1, .int .i64 c.2.1, .int .i64 c.2.2] 46)) := by
  obtain ⟨i0, hi0, hz0, hz1, hz2⟩ := info_parts chInfo
  refine wpList_append_own _ hgd s x 23 ho base 46 i0 (.agg #[.int .i64 0, .int .i64 0, .int .i64 0]) 3 24 Tryd.underlying23 hi0 hz0 hz1 hz2 rfl (by decide) v cs.length (chCells cs) hs (World.ownsRow.alloc hX _) ⟨w.heap.size, 0, none⟩ 1 1
    [.int .i64 c.1, .int .i64 c.2.1, .int .i64 c.2.2] hx rfl ?_ ?_ (by unfold maxLen; omega) (by omega) (by simp; omega) ?_
  · intro j u hj
    have hp : ((⟨w.heap.size, 0, none⟩ : Addr).add j) = ⟨w.heap.size, j, none⟩ := by unfold Addr.add; split <;> simp_all
    rw [hp]
    exact new_cell w _ _ j u (by simpa using hj)
  · intro u hu
    simp only [List.mem_cons, List.not_mem_nil, or_false] at hu
    rcases hu with rfl | rfl | rfl <;> rfl
  · intro v' w' hown' hgrow _
    refine h v' w' ?_ ?_ (fun q hq hne => (hgrow.block q (by simp; omega) (fun e => hne e.symm)).trans (Below.heap_alloc w _ q hq))
    case refine_2 => exact (((Below.refl base w).alloc hbase _).grown hgrow (by simp; omega) (fun q hq => (World.ownsRow.lt hX q hq).1))
    unfold OwnsCh
    rw [List.length_append]
    have e : chCells (cs ++ [c]) = chCells cs ++ [.int .i64 c.1, .int .i64 c.2.1, .int .i64 c.2.2] := by unfold chCells; rw [List.flatMap_append]; rfl
    rw [e]
    exact hown'
theorem wpList_append_back {ops : Array Oper} {rest : List Oper} {o : Oper} {a : Act} {Q : Exit → Act → World → Prop} {w : World} (hgd : o.guard = none) (s x : Operand)
    (ho : o.op = .call { callee := .builtin .append, args := #[s, x], argTypes := #[23, 23] }) (base : Nat) (hbase : base ≤ w.heap.size) (c : DM.Ch)
    (v : Value) (cs : List DM.Ch) (hs : a.eval s = v) (hX : OwnsCh base w v cs) (hx : a.eval x = .slice (some ⟨w.heap.size, 0, none⟩) 1 1) (hlen : cs.length ≤ 1000)
    (h : ∀ v' w', OwnsCh base w' v' (cs ++ [c]) → Below base w w' → wpList Tryd.prog ops Q rest (a.put o.dst v') w') :
    wpList Tryd.prog ops Q (o :: rest) a (w.alloc (.cells #[.int .i64 c.1, .int .i64 c.2.1, .int .i64 c.2.2] 46)) :=
  wpList_append_back' hgd s x ho base hbase c v cs hs hX hx hlen fun v' w' h1 h2 _ => h v' w' h1 h2
end Go.Proofs.YtgokinfejbefjaaDoor
