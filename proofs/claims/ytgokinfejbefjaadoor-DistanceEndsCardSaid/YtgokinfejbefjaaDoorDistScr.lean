/- The walk of the reference's Script. -/
import Derived.Test.YtgokinfejbefjaaDoorDistSame
import Derived.Deep.AppendLies
import Derived.Laws.OwnMore
import Derived.Laws.AppendOwnNone
namespace Go.Proofs.YtgokinfejbefjaaDoor
open Go.RowKit
set_option maxRecDepth 100000

theorem chInfo : (Tryd.prog.info? 46).map (fun i => (i.zero, i.size, i.bytes)) = some (some (.agg #[.int .i64 0, .int .i64 0, .int .i64 0]), 3, 24) := by kernel_rfl
def chCells (cs : List DM.Ch) : List Value := cs.flatMap fun c => [.int .i64 c.1, .int .i64 c.2.1, .int .i64 c.2.2]
theorem chCells_len (cs : List DM.Ch) : (chCells cs).length = cs.length * 3 := by
  induction cs with
  | nil => rfl
  | cons c t ih => rw [chCells, List.flatMap_cons, List.length_append]; show 3 + (chCells t).length = _; rw [ih, List.length_cons]; omega
/-- A slice of changes of this call's own. -/
def OwnsCh (base : Nat) (w : World) (v : Value) (cs : List DM.Ch) : Prop := w.ownsRow base 46 3 v cs.length (chCells cs)

/-- The script of the first i and k bytes. -/
def scrN (a b : ByteArray) (i k : Nat) : List DM.Ch := DM.scr (a.data.toList.take i).reverse (b.data.toList.take k).reverse
theorem scrN_zero (a b : ByteArray) : scrN a b 0 0 = [] := by
  unfold scrN
  rw [List.take_zero, List.take_zero, List.reverse_nil, DM.scr]
theorem rev_cons (a : ByteArray) (i : Nat) (h : i < a.size) : (a.data.toList.take (i + 1)).reverse = a[i] :: (a.data.toList.take i).reverse := DM.take_rev a.data.toList i (by simpa using h)
theorem rev_len (a : ByteArray) (i : Nat) (h : i ≤ a.size) : ((a.data.toList.take i).reverse).length = i := by
  rw [List.length_reverse, List.length_take, size_list]; omega
theorem scrN_left (a b : ByteArray) (k : Nat) (h : k < b.size) : scrN a b 0 (k + 1) = scrN a b 0 k ++ [(1, 0, (b[k].toNat : Int))] := by
  unfold scrN
  rw [rev_cons b k h, List.take_zero, List.reverse_nil, DM.scr]
theorem scrN_top (a b : ByteArray) (i : Nat) (h : i < a.size) : scrN a b (i + 1) 0 = scrN a b i 0 ++ [(2, (i : Int), 0)] := by
  unfold scrN
  rw [rev_cons a i h, List.take_zero, List.reverse_nil, DM.scr, rev_len a i (by omega)]
theorem tabN_d (a b : ByteArray) (i k : Nat) : tabN a b i k = DM.d (a.data.toList.take i).reverse (b.data.toList.take k).reverse := rfl
theorem scrN_same (a b : ByteArray) (i k : Nat) (hi : i < a.size) (hk : k < b.size) (h : a[i] = b[k]) : scrN a b (i + 1) (k + 1) = scrN a b i k ∧ tabN a b (i + 1) (k + 1) = tabN a b i k := by
  unfold scrN
  rw [tabN_d, tabN_d, rev_cons a i hi, rev_cons b k hk, h]
  exact ⟨by rw [DM.scr, if_pos rfl], DM.same _ _ _⟩
theorem scrN_replace (a b : ByteArray) (i k : Nat) (hi : i < a.size) (hk : k < b.size) (h : a[i] ≠ b[k]) (h1 : tabN a b (i + 1) (k + 1) = tabN a b i k + 1) :
    scrN a b (i + 1) (k + 1) = scrN a b i k ++ [(3, (i : Int), (b[k].toNat : Int))] := by
  unfold scrN
  rw [tabN_d, tabN_d, rev_cons a i hi, rev_cons b k hk] at h1
  rw [rev_cons a i hi, rev_cons b k hk, DM.scr, if_neg h, if_pos h1, rev_len a i (by omega)]
theorem scrN_delete (a b : ByteArray) (i k : Nat) (hi : i < a.size) (hk : k < b.size) (h : a[i] ≠ b[k]) (h1 : tabN a b (i + 1) (k + 1) ≠ tabN a b i k + 1) (h2 : tabN a b (i + 1) (k + 1) = tabN a b i (k + 1) + 1) :
    scrN a b (i + 1) (k + 1) = scrN a b i (k + 1) ++ [(2, (i : Int), 0)] := by
  unfold scrN
  rw [tabN_d, tabN_d, rev_cons a i hi, rev_cons b k hk] at h1 h2
  rw [rev_cons a i hi, rev_cons b k hk, DM.scr, if_neg h, if_neg h1, if_pos h2, rev_len a i (by omega)]
theorem scrN_insert (a b : ByteArray) (i k : Nat) (hi : i < a.size) (hk : k < b.size) (h : a[i] ≠ b[k]) (h1 : tabN a b (i + 1) (k + 1) ≠ tabN a b i k + 1) (h2 : tabN a b (i + 1) (k + 1) ≠ tabN a b i (k + 1) + 1)
    (h3 : tabN a b (i + 1) (k + 1) = tabN a b (i + 1) k + 1) : scrN a b (i + 1) (k + 1) = scrN a b (i + 1) k ++ [(1, (i : Int) + 1, (b[k].toNat : Int))] := by
  unfold scrN
  rw [tabN_d, tabN_d, rev_cons a i hi, rev_cons b k hk] at h1 h2 h3
  rw [rev_cons a i hi, rev_cons b k hk, DM.scr, if_neg h, if_neg h1, if_neg h2, if_pos h3, rev_len a i (by omega)]
theorem scrN_swap (a b : ByteArray) (i k : Nat) (hi : i < a.size) (hk : k < b.size) (h : a[i] ≠ b[k]) (h1 : tabN a b (i + 1) (k + 1) ≠ tabN a b i k + 1) (h2 : tabN a b (i + 1) (k + 1) ≠ tabN a b i (k + 1) + 1)
    (h3 : tabN a b (i + 1) (k + 1) ≠ tabN a b (i + 1) k + 1) : ∃ i' k', i = i' + 1 ∧ k = k' + 1 ∧ scrN a b (i + 1) (k + 1) = scrN a b i' k' ++ [(4, (i' : Int), 0)] := by
  unfold scrN
  rw [tabN_d, tabN_d, rev_cons a i hi, rev_cons b k hk] at h1 h2 h3
  have hl1 := rev_len a i (by omega)
  have hl2 := rev_len b k (by omega)
  rcases DM.scr_ways a[i] (a.data.toList.take i).reverse b[k] (b.data.toList.take k).reverse with ⟨e, -⟩ | ⟨-, e⟩ | ⟨-, e⟩ | ⟨-, e⟩ | ⟨us, vs, hu, hv, es, -⟩
  · exact absurd e h
  · exact absurd e h1
  · exact absurd e h2
  · exact absurd e h3
  · match i, k, hi, hk, hl1, hl2, hu, hv, es with
    | 0, _, _, _, _, _, hu, _, _ => simp at hu
    | _ + 1, 0, _, _, _, _, _, hv, _ => simp at hv
    | i + 1, k + 1, hi, hk, hl1, hl2, hu, hv, es =>
      rw [rev_cons a i (by omega)] at hu
      rw [rev_cons b k (by omega)] at hv
      obtain ⟨-, rfl⟩ := List.cons.inj hu
      obtain ⟨-, rfl⟩ := List.cons.inj hv
      refine ⟨i, k, rfl, rfl, ?_⟩
      rw [rev_cons a (i + 1) hi, rev_cons b (k + 1) hk, es, rev_len a i (by omega)]

theorem wpList_append_front {ops : Array Oper} {rest : List Oper} {o : Oper} {a : Act} {Q : Exit → Act → World → Prop} {w : World} (hgd : o.guard = none) (s x : Operand)
    (ho : o.op = .call { callee := .builtin .append, args := #[s, x], argTypes := #[23, 23] }) (base : Nat) (hbase : base ≤ w.heap.size) (c : DM.Ch)
    (hs : a.eval s = .slice (some ⟨w.heap.size, 0, none⟩) 1 1) (v : Value) (cs : List DM.Ch) (hx : a.eval x = v) (hX : OwnsCh base w v cs) (hn : cs = [] → v = .slice none 0 0) (hlen : cs.length ≤ 1000)
    (h : ∀ v' w', OwnsCh base w' v' (c :: cs) → Below base w w' → wpList Tryd.prog ops Q rest (a.put o.dst v') w') :
    wpList Tryd.prog ops Q (o :: rest) a (w.alloc (.cells #[.int .i64 c.1, .int .i64 c.2.1, .int .i64 c.2.2] 46)) := by
  obtain ⟨i0, hi0, hz0, hz1, hz2⟩ := info_parts chInfo
  have hown := World.ownsRow_lit (e := 46) (base := base) (size := 3) w #[.int .i64 c.1, .int .i64 c.2.1, .int .i64 c.2.2] 1 hbase (by decide) rfl
  by_cases h0 : cs = []
  · subst h0
    obtain rfl := hn rfl
    refine wpList_append_own_none hgd s x 23 ho base 46 i0 3 Tryd.underlying23 hi0 _ 1 _ hs hown hx ?_
    exact h _ _ hown ((Below.refl base w).alloc hbase _)
  · have hl : 0 < cs.length := List.length_pos_iff.2 h0
    obtain ⟨g, cap, rfl, hg1, hg2⟩ := World.ownsRow.form hX hl
    refine wpList_append_own _ hgd s x 23 ho base 46 i0 (.agg #[.int .i64 0, .int .i64 0, .int .i64 0]) 3 24 Tryd.underlying23 hi0 hz0 hz1 hz2 rfl (by decide) _ 1 _ hs hown ⟨g, 0, none⟩ cs.length cap (chCells cs) hx (chCells_len cs) ?_ ?_ (by unfold maxLen; omega) (by omega) (by simp; omega) ?_
    · intro j u hj
      have hc := World.ownsRow.cells hX (g := g) rfl j u hj
      have hp : ((⟨g, 0, none⟩ : Addr).add j) = ⟨g, j, none⟩ := by unfold Addr.add; split <;> simp_all
      rw [hp] at hc ⊢
      exact cell_one hc
    · intro u hu
      unfold chCells at hu
      obtain ⟨y, _, hu⟩ := List.mem_flatMap.1 hu
      simp only [List.mem_cons, List.not_mem_nil, or_false] at hu
      rcases hu with rfl | rfl | rfl <;> rfl
    · intro v' w' hown' hgrow _
      refine h v' w' ?_ (((Below.refl base w).alloc hbase _).grown hgrow (by simp; omega) (fun q hq => (hown.lt q hq).1))
      have e : 1 + cs.length = (c :: cs).length := by rw [List.length_cons]; omega
      rw [e] at hown'
      exact hown'
end Go.Proofs.YtgokinfejbefjaaDoor
