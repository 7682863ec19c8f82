/- A row of bytes that a call builds; the walks of the program's carryOut, Apply and Proves. -/
import Derived.Test.YtgokinfejbefjaaDoorDistOrd
import Derived.Test.YtgokinfejbefjaaDoorDistSame
import Derived.Laws.OwnMore
import Derived.Laws.BytesArg
import Derived.Lib.AppendStr
import Derived.Deep.RegionLaw
namespace Go.Proofs.YtgokinfejbefjaaDoor
open Go.RowKit
set_option maxRecDepth 100000

theorem byteInfo : (Tryd.prog.info? 5).map (fun i => (i.zero, i.size, i.bytes)) = some (some (.int .u8 0), 1, 1) := by kernel_rfl
/-- A slice of bytes of this call's own. -/
def OwnsB (base : Nat) (w : World) (v : Value) (l : List UInt8) : Prop := w.ownsRow base 5 1 v l.length (l.map fun b => Value.int .u8 (b.toNat : Int))
theorem OwnsB.alloc {base : Nat} {w : World} {v : Value} {l : List UInt8} (h : OwnsB base w v l) (o : Obj) : OwnsB base (w.alloc o) v l := World.ownsRow.alloc h o
theorem convOwn {base : Nat} {W : World} {v : Value} {l : List UInt8} (h : OwnsB base W v l) : (convert 52 9 v).run Tryd.prog W = .ok (.string (bs l)) W := by
  rcases h.2 with ⟨hv, h1⟩ | ⟨g, cap, cur, hv, hbg, hg, hnc, hcm, hcs, htake⟩
  · obtain rfl := List.eq_nil_of_length_eq_zero h1
    rw [hv]
    exact run_convert_bytes_nil W 52 5 Tryd.underlying52 Tryd.underlying5 0 0 9 Tryd.underlying9
  · rw [hv]
    refine run_convert_bytes_back W 52 9 5 ⟨g, 0, none⟩ cap l Tryd.underlying52 Tryd.underlying5 Tryd.underlying9 ?_
    intro j hj
    exact World.ownsRow.cells h (g := g) (by rw [hv]; rfl) j (.int .u8 (l[j].toNat : Int)) (by rw [List.getElem?_map, List.getElem?_eq_getElem hj]; rfl)

theorem wpList_bytes_str {ops : Array Oper} {rest : List Oper} {o : Oper} {a : Act} {Q : Exit → Act → World → Prop} {w : World} (hgd : o.guard = none) (s x : Operand)
    (ho : o.op = .call { callee := .builtin .append, args := #[s, x], argTypes := #[52, 9] }) (base : Nat) (hbase : base ≤ w.heap.size)
    (v : Value) (acc : List UInt8) (hs : a.eval s = v) (hown : OwnsB base w v acc) (t : ByteArray) (hx : a.eval x = .string t) (hlen : acc.length + t.size ≤ 100000000)
    (h : ∀ v' w', OwnsB base w' v' (acc ++ t.data.toList) → w.grownBy w' v.ownBlock → wpList Tryd.prog ops Q rest (a.put o.dst v') w') : wpList Tryd.prog ops Q (o :: rest) a w := by
  obtain ⟨i0, hi0, hz0, hz1, hz2⟩ := info_parts byteInfo
  refine Lib.wpList_append_own_string w hgd s x 52 9 ho base 5 i0 Tryd.underlying52 Tryd.underlying9 hi0 hz0 hz1 hz2 v acc.length _ hs hown t hx (by unfold maxLen; omega) (by omega) hbase ?_
  intro v' w' hown' hgrow _
  refine h v' w' ?_ hgrow
  unfold OwnsB
  rw [List.map_append, List.length_append, size_list]
  exact hown'
theorem wp_bytes_row {o : Oper} {a : Act} {K : Act → World → Prop} {Q : Exit → Act → World → Prop} {w : World} (s x : Operand)
    (ho : o.op = .call { callee := .builtin .append, args := #[s, x], argTypes := #[52, 52] }) (base : Nat) (hbase : base ≤ w.heap.size)
    (v : Value) (acc : List UInt8) (hs : a.eval s = v) (hown : OwnsB base w v acc) (g : Nat) (l : List UInt8) (hx : a.eval x = .slice (some ⟨g, 0, none⟩) l.length l.length)
    (hc : ∀ j, ∀ hj : j < l.length, w.cell? ⟨g, j, none⟩ = some (.int .u8 (l[j].toNat : Int))) (hlen : acc.length + l.length ≤ 100000000)
    (h : ∀ v' w', OwnsB base w' v' (acc ++ l) → w.grownBy w' v.ownBlock → K (a.put o.dst v') w') : Oper.wp Tryd.prog o a w K Q := by
  obtain ⟨i0, hi0, hz0, hz1, hz2⟩ := info_parts byteInfo
  refine wp_append_own w s x 52 ho base 5 i0 (.int .u8 0) 1 1 Tryd.underlying52 hi0 hz0 hz1 hz2 rfl (by decide) v acc.length _ hs hown ⟨g, 0, none⟩ l.length l.length (l.map fun b => Value.int .u8 (b.toNat : Int)) hx (by simp) ?_ (fun u hu => by
    obtain ⟨y, _, rfl⟩ := List.mem_map.1 hu; rfl) (by unfold maxLen; omega) (by omega) hbase ?_
  · intro j u hj
    rw [List.getElem?_map] at hj
    obtain ⟨y, hy, rfl⟩ := Option.map_eq_some_iff.1 hj
    obtain ⟨hjl, rfl⟩ := List.getElem?_eq_some_iff.1 hy
    have hp : ((⟨g, 0, none⟩ : Addr).add j) = ⟨g, j, none⟩ := by unfold Addr.add; split <;> simp_all
    rw [hp]
    exact hc j hjl
  · intro v' w' hown' hgrow _
    refine h v' w' ?_ hgrow
    unfold OwnsB
    rw [List.map_append, List.length_append]
    exact hown'
theorem wpList_bytes_row {ops : Array Oper} {rest : List Oper} {o : Oper} {a : Act} {Q : Exit → Act → World → Prop} {w : World} (hgd : o.guard = none) (s x : Operand)
    (ho : o.op = .call { callee := .builtin .append, args := #[s, x], argTypes := #[52, 52] }) (base : Nat) (hbase : base ≤ w.heap.size)
    (v : Value) (acc : List UInt8) (hs : a.eval s = v) (hown : OwnsB base w v acc) (g : Nat) (l : List UInt8) (hx : a.eval x = .slice (some ⟨g, 0, none⟩) l.length l.length)
    (hc : ∀ j, ∀ hj : j < l.length, w.cell? ⟨g, j, none⟩ = some (.int .u8 (l[j].toNat : Int))) (hlen : acc.length + l.length ≤ 100000000)
    (h : ∀ v' w', OwnsB base w' v' (acc ++ l) → w.grownBy w' v.ownBlock → wpList Tryd.prog ops Q rest (a.put o.dst v') w') : wpList Tryd.prog ops Q (o :: rest) a w :=
  wpList_plain hgd fun _ hK => wp_bytes_row s x ho base hbase v acc hs hown g l hx hc hlen fun v' w' h2 h3 => hK _ _ (h v' w' h2 h3)
theorem step_bytes_row {ops : Array Oper} {o : Oper} {a : Act} {K : Act → World → Prop} {Q : Exit → Act → World → Prop} {E : Prop} {w : World} (hgd : o.guard = none) (s x : Operand)
    (ho : o.op = .call { callee := .builtin .append, args := #[s, x], argTypes := #[52, 52] }) (base : Nat) (hbase : base ≤ w.heap.size)
    (v : Value) (acc : List UInt8) (hs : a.eval s = v) (hown : OwnsB base w v acc) (g : Nat) (l : List UInt8) (hx : a.eval x = .slice (some ⟨g, 0, none⟩) l.length l.length)
    (hc : ∀ j, ∀ hj : j < l.length, w.cell? ⟨g, j, none⟩ = some (.int .u8 (l[j].toNat : Int))) (hlen : acc.length + l.length ≤ 100000000)
    (h : ∀ v' w', OwnsB base w' v' (acc ++ l) → w.grownBy w' v.ownBlock → K (a.put o.dst v') w') :
    if Region.wanted o (yielded ops a.tmps) = true then Oper.wp Tryd.prog o a w K Q else E := by
  have hw : Region.wanted o (yielded ops a.tmps) = true := by simp [Region.wanted, hgd]
  rw [if_pos hw]
  exact wp_bytes_row s x ho base hbase v acc hs hown g l hx hc hlen h

theorem new_cellB (w : World) (cs : Array Value) (T : TypeId) (k : Nat) (v : Value) (h : cs[k]? = some v) : (w.alloc (.cells cs T)).cell? ⟨w.heap.size, k, none⟩ = some v := by
  rw [cell_of_row _ _ _ _ _ _ (heap_alloc_new w _)]; exact h
theorem touched_at (k t : Int) (h : (touchN k : Int) = t) (w : World) : Calls Tryd.prog 43 #[.int .i64 k] w fun e w' => e = .returned (.int .i64 t) ∧ w = w' := by
  rw [← h]
  exact touched_any k w

set_option maxHeartbeats 8000000 in
theorem carryOut_any (B : Nat) (a : ByteArray) (v : Value) (cs : List DM.Ch) (w : World) (ha : a.size ≤ 64) (h : IsChs B w v cs) (hB : B ≤ w.heap.size) (hl : cs.length ≤ 1000000) (hord : DM.ord cs = true) (hall : cs.all (DM.right a.size) = true) :
    Calls Tryd.prog 37 #[.string a, v] w fun e w' => e = .returned (.string (bs (DM.ap a.data.toList cs))) ∧ Below w.heap.size w w' := by
  obtain ⟨A, cap, rfl, h1, h2, hok, hc⟩ := h.cells
  unfold maxLen at h2
  have HC := Lib.hid hc
  have hal : a.data.toList.length = a.size := size_list a
  have HP := Lib.hid (fold_place a.data.toList cs hord (by rw [hal]; exact hall))
  have HALLc := Lib.hid hall
  have HO0 := Lib.hid (World.ownsRow_nil w w.heap.size 5 1)
  clear hc hok h hall hord
  go_enter Tryd.func37, Tryd.ntmps37
  go_wp2
  go_loopw [5, 6, 11] (fun ov mv i wr => ∃ (k : Nat) (acc : List UInt8) (m : Nat), k ≤ cs.length ∧ i = .int .i64 k ∧ mv = .int .i64 m ∧ DM.fold a.data.toList ([], 0) (cs.take k) = (acc, m) ∧ OwnsB w.heap.size wr ov acc ∧ Below w.heap.size w wr) (fun _ _ i _ => cs.length - (intOf i).toNat)
  case atStart => exact ⟨0, [], 0, Nat.zero_le _, rfl, rfl, rfl, HO0.out, Below.refl _ _⟩
  case round =>
    obtain ⟨k, acc, m, hk, rfl, rfl, hf, hown, hbw⟩ := hrel
    obtain ⟨hp1, hp2, hp3⟩ := HP.out k hk
    rw [hf] at hp1 hp2 hp3
    simp only [size_list] at hp1 hp2
    have HF := Lib.hid hf
    have HW := Lib.hid hown
    clear hf hown
    have hsz := hbw.size
    by_cases hlt : k < cs.length
    · have hp3 := hp3 hlt
      have hr := List.all_eq_true.1 HALLc.out cs[k] (List.getElem_mem hlt)
      have HS := Lib.hid (show DM.fold a.data.toList ([], 0) (cs.take (k + 1)) = DM.step a.data.toList (acc, m) cs[k] by
        rw [List.take_succ_eq_append_getElem hlt, DM.fold_snoc, HF.out])
      obtain ⟨b, o, rfl, hbB, x0, x1, x2⟩ := HC.out k hlt
      have hb' : b < w.heap.size := by omega
      have k0 := (hbw.cell (p := ⟨b, _, none⟩) hb').trans x0
      have k1 := (hbw.cell (p := ⟨b, _, none⟩) hb').trans x1
      have k2 := (hbw.cell (p := ⟨b, _, none⟩) hb').trans x2
      have i1 : (k : Int) < (cs.length : Int) := by omega
      clear x0 x1 x2
      generalize cs[k] = P at *
      obtain ⟨pk, pp, py⟩ := P
      simp only at k0 k1 k2 hp3
      obtain ⟨p, rfl⟩ : ∃ p : Nat, pp = (p : Int) := ⟨pp.toNat, by have := DM.right_cases hr; simp only at this; omega⟩
      have hmp : m ≤ p := by omega
      have hseg := Lib.hid (Lib.extract_data a m p)
      have hpa : p ≤ a.size := by have := DM.right_cases hr; simp only at this; omega
      have ez : (a.extract m p).size = p - m := by simp; omega
      have j1 : (m : Int) ≤ (p : Int) := by omega
      have j2 : (p : Int) ≤ (a.size : Int) := by omega
      have j3 : (0 : Int) ≤ (m : Int) := by omega
      have HOB := Lib.hid (fun q hq => World.ownsRow.lt HW.out q hq)
      go_wp2_with (at_builtin; refine wpList_bytes_str rfl _ _ rfl w.heap.size (by simp; omega) _ acc rfl (HW.out.alloc _) (a.extract m p) rfl (by omega) ?_)
      intro v' w2 own2 grow2
      have hcb := fun kk vv h => (World.cell?_of_block (a := ⟨wr.heap.size, kk, none⟩) (grow2.block wr.heap.size (by simp) (fun e => by have := (HOB.out _ e.symm).2; omega))).trans (new_cellB wr _ 46 kk vv h)
      have c0 := hcb 0 _ rfl
      have c1 := hcb 1 _ rfl
      have c2 := hcb 2 _ rfl
      have hb3 : Below w.heap.size w w2 := (hbw.alloc hsz _).grown grow2 (by simp; omega) (fun q hq => (HOB.out q hq).1)
      have hs2 : w.heap.size ≤ w2.heap.size := hb3.size
      have O2 := Lib.hid own2
      have HOB2 := Lib.hid (fun q hq => World.ownsRow.lt own2 q hq)
      have hl2 : (acc ++ (a.data.toList.drop m).take (p - m)).length ≤ 3000000 := by rw [List.length_append, List.length_take]; omega
      clear hcb own2 grow2 k0 k1 k2
      rcases DM.right_cases hr with ⟨hk1, g1, g2, g3, g4⟩ | ⟨hk1, g1, g2, g3, g4⟩ | ⟨hk1, g1, g2, g3⟩ | ⟨hk1, g1, g2, g3⟩
      · simp only at hk1 g1 g2 g3 g4
        subst hk1
        have hT := Lib.hid (fun W => touched_at 1 0 (by decide) W)
        have wb : IntKind.u8.wrap py = py := by
          simp [IntKind.wrap, IntKind.bits, IntKind.signed]
          omega
        have hy := Lib.hid (show py = ((UInt8.ofNat py.toNat).toNat : Int) by rw [UInt8.toNat_ofNat']; omega)
        have HFIN := Lib.hid (show DM.fold a.data.toList ([], 0) (cs.take (k + 1)) = (acc ++ (a.data.toList.drop m).take (p - m) ++ [UInt8.ofNat py.toNat], p) by
          rw [HS.out]
          simp [DM.step])
        generalize hA : acc ++ (a.data.toList.drop m).take (p - m) = ACC at *
        clear hA
        go_wp2_with fail
        go_quiet ((go_at_call 43; exact quiet_left (hT.out _)))
        obtain ⟨W2, hW2⟩ : ∃ W, W = w2.drewN nq := ⟨_, rfl⟩
        have O3 : Hid (OwnsB w.heap.size W2 v' ACC) := by rw [hW2]; exact O2.out
        have hb4 : Below w.heap.size w W2 := by rw [hW2]; exact below_drewN hb3 _
        have e2 : W2.cell? ⟨wr.heap.size, 2, none⟩ = some (.int .i64 py) := by rw [hW2]; exact c2
        have e0 : W2.cell? ⟨wr.heap.size, 0, none⟩ = some (.int .i64 1) := by rw [hW2]; exact c0
        have HOB3 : Hid (∀ q, v'.ownBlock = some q → w.heap.size ≤ q ∧ q < W2.heap.size) := by rw [hW2]; exact HOB2.out
        rw [← hW2]
        have hs4 : w.heap.size ≤ W2.heap.size := hb4.size
        clear hW2 hb3 c0 c1 c2 hs2 O2 HOB2
        go_wp2_with (at_builtin; refine wpList_bytes_row rfl _ _ rfl w.heap.size (by simp; omega) _ ACC rfl (O3.out.alloc _) W2.heap.size [UInt8.ofNat py.toNat] rfl ?c1 (by simp; omega) ?_)
        case c1 =>
          intro j hj
          match j, hj with
          | 0, _ => rw [new_cellB W2 _ 5 0 (.int .u8 py) rfl]; exact congrArg (fun z => some (Value.int .u8 z)) hy.out
        intro v3 w3 own3 grow3
        have hb5 : Below w.heap.size w w3 := (hb4.alloc hs4 _).grown grow3 (by simp; omega) (fun q hq => (HOB3.out q hq).1)
        go_wp2
        exact ⟨⟨k + 1, ACC ++ [UInt8.ofNat py.toNat], p, by omega, by go_num, by go_num, HFIN.out, own3, hb5⟩, by simp [intOf]; omega⟩
      · simp only at hk1 g1 g2 g3 g4
        subst hk1
        have hT := Lib.hid (fun W => touched_at 3 1 (by decide) W)
        have wb : IntKind.u8.wrap py = py := by
          simp [IntKind.wrap, IntKind.bits, IntKind.signed]
          omega
        have hy := Lib.hid (show py = ((UInt8.ofNat py.toNat).toNat : Int) by rw [UInt8.toNat_ofNat']; omega)
        have HFIN := Lib.hid (show DM.fold a.data.toList ([], 0) (cs.take (k + 1)) = (acc ++ (a.data.toList.drop m).take (p - m) ++ [UInt8.ofNat py.toNat], p + 1) by
          rw [HS.out]
          simp [DM.step])
        generalize hA : acc ++ (a.data.toList.drop m).take (p - m) = ACC at *
        clear hA
        go_wp2_with fail
        go_quiet ((go_at_call 43; exact quiet_left (hT.out _)))
        obtain ⟨W2, hW2⟩ : ∃ W, W = w2.drewN nq := ⟨_, rfl⟩
        have O3 : Hid (OwnsB w.heap.size W2 v' ACC) := by rw [hW2]; exact O2.out
        have hb4 : Below w.heap.size w W2 := by rw [hW2]; exact below_drewN hb3 _
        have e2 : W2.cell? ⟨wr.heap.size, 2, none⟩ = some (.int .i64 py) := by rw [hW2]; exact c2
        have e0 : W2.cell? ⟨wr.heap.size, 0, none⟩ = some (.int .i64 3) := by rw [hW2]; exact c0
        have HOB3 : Hid (∀ q, v'.ownBlock = some q → w.heap.size ≤ q ∧ q < W2.heap.size) := by rw [hW2]; exact HOB2.out
        rw [← hW2]
        have hs4 : w.heap.size ≤ W2.heap.size := hb4.size
        clear hW2 hb3 c0 c1 c2 hs2 O2 HOB2
        go_wp2_with (at_builtin; refine wpList_bytes_row rfl _ _ rfl w.heap.size (by simp; omega) _ ACC rfl (O3.out.alloc _) W2.heap.size [UInt8.ofNat py.toNat] rfl ?c1 (by simp; omega) ?_)
        case c1 =>
          intro j hj
          match j, hj with
          | 0, _ => rw [new_cellB W2 _ 5 0 (.int .u8 py) rfl]; exact congrArg (fun z => some (Value.int .u8 z)) hy.out
        intro v3 w3 own3 grow3
        have hb5 : Below w.heap.size w w3 := (hb4.alloc hs4 _).grown grow3 (by simp; omega) (fun q hq => (HOB3.out q hq).1)
        go_wp2
        exact ⟨⟨k + 1, ACC ++ [UInt8.ofNat py.toNat], p + 1, by omega, by go_num, by go_num, HFIN.out, own3, hb5⟩, by simp [intOf]; omega⟩
      · simp only at hk1 g1 g2 g3
        subst hk1
        have hT := Lib.hid (fun W => touched_at 2 1 (by decide) W)
        have HFIN := Lib.hid (show DM.fold a.data.toList ([], 0) (cs.take (k + 1)) = (acc ++ (a.data.toList.drop m).take (p - m), p + 1) by
          rw [HS.out]
          simp [DM.step])
        generalize hA : acc ++ (a.data.toList.drop m).take (p - m) = ACC at *
        clear hA
        go_wp2_with fail
        go_quiet ((go_at_call 43; exact quiet_left (hT.out _)))
        go_wp2
        exact ⟨⟨k + 1, ACC, p + 1, by omega, by go_num, by go_num, HFIN.out, O2.out, below_drewN hb3 _⟩, by simp [intOf]; omega⟩
      · simp only at hk1 g1 g2 g3
        subst hk1
        have hT := Lib.hid (fun W => touched_at 4 2 (by decide) W)
        have hp1' : p + 1 < a.size := by omega
        have HFIN := Lib.hid (show DM.fold a.data.toList ([], 0) (cs.take (k + 1)) = (acc ++ (a.data.toList.drop m).take (p - m) ++ [a[p + 1], a[p]], p + 2) by
          rw [HS.out]
          simp only [DM.step]
          rw [DM.getD_is _ _ (by rw [hal]; simpa using hp1'), DM.getD_is _ _ (by rw [hal]; simp; omega)]
          simp
          exact ⟨rfl, rfl⟩)
        generalize hA : acc ++ (a.data.toList.drop m).take (p - m) = ACC at *
        clear hA
        have u1 : (p : Int) + 1 < (a.size : Int) := by omega
        have u2 : (p : Int) < (a.size : Int) := by omega
        have u3 : (0 : Int) ≤ (p : Int) + 1 := by omega
        have u4 : IntKind.i64.wrap ((p : Int) + 1) = (p : Int) + 1 := wrap_num _ (by omega) (by omega)
        have u5 : IntKind.i64.wrap (p : Int) = (p : Int) := wrap_num _ (by omega) (by omega)
        go_wp2_with fail
        go_quiet ((go_at_call 43; exact quiet_left (hT.out _)))
        obtain ⟨W2, hW2⟩ : ∃ W, W = w2.drewN nq := ⟨_, rfl⟩
        have O3 : Hid (OwnsB w.heap.size W2 v' ACC) := by rw [hW2]; exact O2.out
        have hb4 : Below w.heap.size w W2 := by rw [hW2]; exact below_drewN hb3 _
        have e1 : W2.cell? ⟨wr.heap.size, 1, none⟩ = some (.int .i64 p) := by rw [hW2]; exact c1
        have e0 : W2.cell? ⟨wr.heap.size, 0, none⟩ = some (.int .i64 4) := by rw [hW2]; exact c0
        have HOB3 : Hid (∀ q, v'.ownBlock = some q → w.heap.size ≤ q ∧ q < W2.heap.size) := by rw [hW2]; exact HOB2.out
        rw [← hW2]
        have hs4 : w.heap.size ≤ W2.heap.size := hb4.size
        clear hW2 hb3 c0 c1 c2 hs2 O2 HOB2
        go_wp2_with fail
        go_region_law
          (refine step_bytes_row ?g1 (.tmp 41) (.tmp 51) ?g2 w.heap.size ?g3 v' ACC ?g4 ?g5 W2.heap.size [a[p + 1], a[p]] ?g6 ?g7 ?g8 ?_
           case g2 => rfl
           case g1 => rfl
           case g3 => first | (simp; omega)
           case g4 => simp [Act.eval]
           case g5 => first | exact O3.out.alloc _ | exact World.ownsRow.alloc O3.out _
           case g6 => simp [Act.eval]
           case g7 =>
             intro j hj
             match j, hj with
             | 0, _ => first | exact new_cellB W2 _ _ 0 _ rfl
             | 1, _ => first | exact new_cellB W2 _ _ 1 _ rfl
           case g8 => simp; omega
           intro v3 w3 own3 grow3
           have hb5 : Below w.heap.size w w3 := by
             have hg := HOB3.out
             first
             | exact Below.grown (hb4.alloc hs4 _).drew grow3 (by first | (simp; omega) | (simp; done) | omega) (fun q hq => (hg q hq).1)
             | exact Below.grown (hb4.drew.alloc hs4 _) grow3 (by first | (simp; omega) | (simp; done) | omega) (fun q hq => (hg q hq).1)
             | exact Below.grown (hb4.alloc hs4 _) grow3 (by first | (simp; omega) | (simp; done) | omega) (fun q hq => (hg q hq).1))
        all_goals
          go_wp2
          exact ⟨⟨k + 1, ACC ++ [a[p + 1], a[p]], p + 2, by omega, by go_num, by go_num, HFIN.out, own3, hb5⟩, by simp [intOf]; omega⟩
    · obtain rfl : k = cs.length := by omega
      have hff := HF.out
      rw [List.take_length] at hff
      have HAP := Lib.hid (show DM.ap a.data.toList cs = acc ++ a.data.toList.drop m by unfold DM.ap; rw [hff])
      have j1 : (m : Int) ≤ (a.size : Int) := by omega
      have ez : (a.extract m a.size).size = a.size - m := by simp
      have eL := Lib.hid (extract_list a m)
      clear hff hp3
      go_wp2_with (at_builtin; refine wpList_bytes_str rfl _ _ rfl w.heap.size hsz _ acc rfl HW.out (a.extract m a.size) rfl (by omega) ?_)
      intro v3 w3 own3 grow3
      have hb5 : Below w.heap.size w w3 := hbw.grown grow3 hsz (fun q hq => (World.ownsRow.lt HW.out q hq).1)
      have own4 : OwnsB w.heap.size w3 v3 (DM.ap a.data.toList cs) := by
        rw [HAP.out]
        first
        | exact own3
        | (rw [List.take_of_length_le (by simp)] at own3; exact own3)
      have hcv := convOwn own4
      clear own3 own4
      go_wp2
      go_ret
      exact ⟨rfl, hb5⟩
end Go.Proofs.YtgokinfejbefjaaDoor
