/- The walk of SiphashLengths. -/
import Derived.Test.YtlcfpdbiippenaaSipRows
import Derived.Deep.RegionHeld3
namespace Go.Proofs.Ytlcfpdbiippenaa
open Go.RowKit
set_option linter.unusedVariables false
set_option maxRecDepth 100000

theorem wp_bytes_str {o : Oper} {a : Act} {K : Act → World → Prop} {Q : Exit → Act → World → Prop} {w : World} (s x : Operand)
    (ho : o.op = .call { callee := .builtin .append, args := #[s, x], argTypes := #[26, 9] }) (base : Nat) (hbase : base ≤ w.heap.size)
    (v : Value) (acc : List UInt8) (hs : a.eval s = v) (hown : OwnsB base w v acc) (t : ByteArray) (hx : a.eval x = .string t) (hlen : acc.length + t.size ≤ 100000000)
    (h : ∀ v' w', OwnsB base w' v' (acc ++ t.data.toList) → w.grownBy w' v.ownBlock → K (a.put o.dst v') w') : Oper.wp Try.prog o a w K Q := by
  obtain ⟨i0, hi0, hz0, hz1, hz2⟩ := info_parts byteInfo
  obtain ⟨v', w', hr, h2, h3, h4⟩ := Lib.run_append_own_string (P := Try.prog) w base 26 9 o.type 5 i0 Try.underlying26 Try.underlying9 hi0 hz0 hz1 hz2 v acc.length _ hown t (by unfold maxLen; omega) (by omega) hbase
  unfold Oper.wp execOp
  simp only [ho, resolve, invoke, builtin, Sem.run_bind, Sem.run_pure, Result.andThen_ok, List.map_toArray, List.map_cons, List.map_nil, hs, hx, hr]
  refine h v' w' ?_ h3
  unfold OwnsB
  rw [List.map_append, List.length_append, size_list]
  exact h2
theorem step_bytes_str {ops : Array Oper} {o : Oper} {a : Act} {K : Act → World → Prop} {Q : Exit → Act → World → Prop} {E : Prop} {w : World} (hw : Region.wanted o (yielded ops a.tmps) = true) (s x : Operand)
    (ho : o.op = .call { callee := .builtin .append, args := #[s, x], argTypes := #[26, 9] }) (base : Nat) (hbase : base ≤ w.heap.size)
    (v : Value) (acc : List UInt8) (hs : a.eval s = v) (hown : OwnsB base w v acc) (t : ByteArray) (hx : a.eval x = .string t) (hlen : acc.length + t.size ≤ 100000000)
    (h : ∀ v' w', OwnsB base w' v' (acc ++ t.data.toList) → w.grownBy w' v.ownBlock → K (a.put o.dst v') w') :
    if Region.wanted o (yielded ops a.tmps) = true then Oper.wp Try.prog o a w K Q else E := by
  rw [if_pos hw]
  exact wp_bytes_str s x ho base hbase v acc hs hown t hx hlen h
theorem step_bytes_any {ops : Array Oper} {o : Oper} {a : Act} {K : Act → World → Prop} {Q : Exit → Act → World → Prop} {E : Prop} {w : World} (hw : Region.wanted o (yielded ops a.tmps) = true) (s x : Operand)
    (ho : o.op = .call { callee := .builtin .append, args := #[s, x], argTypes := #[26, 26] }) (base : Nat) (hbase : base ≤ w.heap.size)
    (v : Value) (acc : List UInt8) (hs : a.eval s = v) (hown : OwnsB base w v acc) (g p c : Nat) (l : List UInt8) (hx : a.eval x = .slice (some ⟨g, p, none⟩) l.length c)
    (hc : ∀ j y, l[j]? = some y → w.cell? ⟨g, p + j, none⟩ = some (.int .u8 (y.toNat : Int))) (hlen : acc.length + l.length ≤ 100000000)
    (h : ∀ v' w', OwnsB base w' v' (acc ++ l) → w.grownBy w' v.ownBlock → K (a.put o.dst v') w') :
    if Region.wanted o (yielded ops a.tmps) = true then Oper.wp Try.prog o a w K Q else E := by
  rw [if_pos hw]
  obtain ⟨i0, hi0, hz0, hz1, hz2⟩ := info_parts byteInfo
  refine wp_append_own w s x 26 ho base 5 i0 (.int .u8 0) 1 1 Try.underlying26 hi0 hz0 hz1 hz2 rfl (by decide) v acc.length _ hs hown ⟨g, p, none⟩ l.length c (l.map fun b => Value.int .u8 (b.toNat : Int)) hx (by simp) ?_ (fun u hu => by
    obtain ⟨y, _, rfl⟩ := List.mem_map.1 hu; rfl) (by unfold maxLen; omega) (by omega) hbase ?_
  · intro j u hj
    rw [List.getElem?_map] at hj
    obtain ⟨y, hy, rfl⟩ := Option.map_eq_some_iff.1 hj
    rw [addr_add]
    exact hc j y hy
  · intro v' w' hown' hgrow _
    refine h v' w' ?_ hgrow
    unfold OwnsB
    rw [List.map_append, List.length_append]
    exact hown'
theorem step_bytes_zero {ops : Array Oper} {o : Oper} {a : Act} {K : Act → World → Prop} {Q : Exit → Act → World → Prop} {E : Prop} {w : World} (hw : Region.wanted o (yielded ops a.tmps) = true) (s x : Operand)
    (ho : o.op = .call { callee := .builtin .append, args := #[s, x], argTypes := #[26, 26] }) (base : Nat) (hbase : base ≤ w.heap.size)
    (v : Value) (acc : List UInt8) (hs : a.eval s = v) (hown : OwnsB base w v acc)
    (hx : ∃ g, a.eval x = .slice (some ⟨g, 0, none⟩) 2 2 ∧ w.cell? ⟨g, 0, none⟩ = some (.int .u8 0) ∧ w.cell? ⟨g, 1, none⟩ = some (.int .u8 0)) (hlen : acc.length + 2 ≤ 100000000)
    (h : ∀ v' w', OwnsB base w' v' (acc ++ [0, 0]) → w.grownBy w' v.ownBlock → K (a.put o.dst v') w') :
    if Region.wanted o (yielded ops a.tmps) = true then Oper.wp Try.prog o a w K Q else E := by
  obtain ⟨g, hx, h0, h1⟩ := hx
  refine step_bytes_any hw s x ho base hbase v acc hs hown g 0 2 [0, 0] hx ?_ hlen h
  intro j y hj
  match j, hj with
  | 0, hj => simp at hj; subst hj; exact h0
  | 1, hj => simp at hj; subst hj; exact h1
theorem below_none5 {w w' : World} {B : Nat} (h : w.grownBy w' none) (hB : B ≤ w.heap.size) : Below B w w' := ⟨h.os, h.tape, h.output, h.size, fun k hk => h.block k (by omega) (fun e => by cases e)⟩
theorem der_keep5 {W u : World} (hb : Below W.heap.size W u) : ∀ p v, W.cell? p = some v → u.cell? p = some v := fun p v h => (hb.cell (p := p) (World.block_lt_of_cell? W _ h)).trans h
theorem part_small (x : ByteArray) (h : x.size < 256) : partL x.data.toList = [0, UInt8.ofNat x.size] ++ x.data.toList := by
  rw [two_bytes x (by omega), show x.size / 256 = 0 by omega, show x.size % 256 = x.size by omega]
  rfl
/-- A row of bytes that is written out. -/
theorem OwnsB.lit (w : World) (l : List UInt8) (base : Nat) (hb : base ≤ w.heap.size) (h : l.length ≤ maxLen) : OwnsB base (w.alloc (.cells (l.map fun b => Value.int .u8 (b.toNat : Int)).toArray 5)) (.slice (some ⟨w.heap.size, 0, none⟩) l.length l.length) l := by
  have := World.ownsRow_lit (e := 5) (size := 1) w (l.map fun b => Value.int .u8 (b.toNat : Int)).toArray l.length hb h (by simp)
  simpa [OwnsB] using this

theorem below_own7 {B : Nat} {w w' : World} {u : Obj} (h : (w.alloc u).grownBy w' (Value.slice (some ⟨w.heap.size, 0, none⟩) 2 2).ownBlock) (hB : B ≤ w.heap.size) : Below B w w' :=
  ((Below.refl B w).alloc hB u).trans ⟨h.os, h.tape, h.output, h.size, fun k hk => h.block k (by simp; omega) (fun e => by simp [Value.ownBlock] at e; omega)⟩

set_option maxHeartbeats 4000000 in
theorem SiphashLengths_walk (A : Option Addr) (n c : Nat) (at_ : UInt8) (w : World) (hE : PEnv w) (hI : IntsArg w A n c) :
    Calls Try.prog 7 #[.slice A n c, .int .u8 (at_.toNat : Int)] w fun e w' => e = .returned (.bool true) ∧ Below w.heap.size w w' := by
  have HE := Lib.hid hE
  have HI := Lib.hid hI
  clear hE hI
  go_enter Try.func7, Try.ntmps7
  go_wp2_with fail
  refine (awake8_any w HE.out).mono ?_
  rintro e w1 ⟨rfl, b1⟩
  have HE1 := Lib.hid (HE.out.below b1 (Nat.le_refl _))
  go_wp2_with fail
  refine (Few_any A n c w1 (Nat.le_trans HI.out.1 HI.out.2.1)).mono ?_
  rintro e w1' ⟨rfl, rfl⟩
  by_cases hn : n ≤ 400
  · have hd : decide (n ≤ 400) = true := by simp [hn]
    rw [hd]
    clear hd
    go_wp2_with fail
    refine (New_any A n c w1 (HI.out.below b1)).mono ?_
    rintro e w3 ⟨rfl, hd3, b3⟩
    generalize hg : w1.heap.size = g at *
    have HG := Lib.hid hg
    clear hg
    have hgw : w.heap.size ≤ g := by rw [← HG.out]; exact b1.size
    have b3' : Below w.heap.size w w3 := b1.trans (b3.mono hgw)
    go_wp2_with fail
    refine (Key_any g w3 hd3).mono ?_
    rintro e w4 ⟨kA, kB, rfl, hd4, g4⟩
    have b4 : Below w.heap.size w w4 := b3'.trans (si_below g4 hgw hd3.lt)
    clear b3 b3' hd3 g4 b1
    unfold keyV
    go_wp2_with fail
    obtain ⟨W5, hW5⟩ : ∃ W, W = w4.alloc (.cells #[.int .u64 (n64 kA), .int .u64 (n64 kB)] 25) := ⟨_, rfl⟩
    have hk : W5.heap[w4.heap.size]? = some (.cells #[.int .u64 (n64 kA), .int .u64 (n64 kB)] 25 (0, 0)) := by rw [hW5]; exact heap_alloc_new w4 _
    have b5 : Below w.heap.size w W5 := by rw [hW5]; exact b4.alloc b4.size _
    have hs5 : W5.heap.size = w4.heap.size + 1 := by rw [hW5]; simp
    have hd5 : Deck g W5 := by rw [hW5]; exact hd4.alloc _
    have hgY := hd4.lt
    rw [← hW5]
    clear hW5 hd4 b4
    generalize w4.heap.size = Y at *
    have hk' := hk
    clear hk
    refine (Token_any g W5 hd5).mono ?_
    rintro e w6 ⟨ta, rfl, hta, hd6, g6⟩
    go_wp2_with fail
    refine (Token_any g w6 hd6).mono ?_
    rintro e w7 ⟨tb, rfl, htb, hd7, g7⟩
    have za := low_size hta
    have zb := low_size htb
    have hlt := at_.toNat_lt
    have g7' := grown_trans g6 g7
    have b7 : Below w.heap.size w w7 := b5.trans (si_below g7' hgw hd5.lt)
    have hs7 := g7'.size
    have hkr : w7.heap[Y]? = some (.cells #[.int .u64 (n64 kA), .int .u64 (n64 kB)] 25 (0, 0)) := (g7'.block Y (by omega) (fun e => by injection e; omega)).trans hk'
    clear hta htb g6 g7 g7' hd5 hd6 hd7 hk' b5
    obtain ⟨I, hI, hI1⟩ : ∃ I : Nat, (at_.toNat : Int) % ((ta.size : Int) + (tb.size : Int) + 1) = (I : Int) ∧ I ≤ ta.size + tb.size := by
      refine ⟨at_.toNat % (ta.size + tb.size + 1), by rw [Int.natCast_emod]; simp, ?_⟩
      have := Nat.mod_lt at_.toNat (show 0 < ta.size + tb.size + 1 by omega)
      omega
    have hI2 : (I : Int) % 256 = (I : Int) := by omega
    have hI3 : (I : Int) ≤ (ta.size : Int) + (tb.size : Int) := by omega
    have hI4 : (0 : Int) ≤ (I : Int) := by omega
    have hx1 : ((UInt8.ofNat I).toNat : Int) = (I : Int) := by rw [UInt8.toNat_ofNat']; omega
    have HL := Lib.hid (OwnsB.lit w7 [0, UInt8.ofNat I] (Y + 1) (by omega) (by unfold maxLen; simp))
    simp only [List.map_cons, List.map_nil, hx1] at HL
    have hbl : Y + 1 ≤ (w7.alloc (.cells #[.int .u8 0, .int .u8 (I : Int)] 5)).heap.size := by simp; omega
    have hS : (ta ++ tb).size = ta.size + tb.size := size_add _ _
    go_wp2_with (at_builtin; refine wpList_bytes_str rfl _ _ rfl (Y + 1) hbl _ [0, UInt8.ofNat I] rfl HL.out ((ta ++ tb).extract 0 I) rfl (by simp; omega) ?_; intro v8 w8 own8 g8; have O8 := Lib.hid own8; have G8 := Lib.hid g8; clear own8 g8; generalize ta ++ tb = S at *)
    have b8 : Below (Y + 1) w7 w8 := below_own7 G8.out (by omega)
    have hI5 : (I : Int) ≤ (S.size : Int) := by omega
    have hSz : S.size ≤ 16 := by omega
    clear hS
    obtain ⟨J, hJ, hJ1⟩ : ∃ J : Nat, (S.size : Int) - (I : Int) = (J : Int) ∧ J = S.size - I := ⟨S.size - I, by omega, rfl⟩
    have hJ2 : (J : Int) % 256 = (J : Int) := by omega
    have hy1 : ((UInt8.ofNat J).toNat : Int) = (J : Int) := by rw [UInt8.toNat_ofNat']; omega
    have hs8 := G8.out.size
    simp only [World.size_alloc] at hs8
    have hacc : ([0, UInt8.ofNat I] ++ (S.extract 0 I).data.toList).length ≤ 18 := by
      have : (S.extract 0 I).size = min I S.size := by simp
      rw [List.length_append, size_list]
      simp only [List.length_cons, List.length_nil]
      omega
    generalize hacc0 : [0, UInt8.ofNat I] ++ (S.extract 0 I).data.toList = acc at *
    have HACC := Lib.hid hacc0
    clear hacc0
    have hX2 : (S.extract I S.size).size ≤ 16 := by
      have : (S.extract I S.size).size = S.size - I := by simp
      omega
    have B8 := Lib.hid b8
    have HOB8 := Lib.hid (fun q hq => World.ownsRow.lt O8.out q hq)
    have hby := b7.size
    have B7 := Lib.hid b7
    have HKR := Lib.hid hkr
    have hIY : w.heap.size ≤ Y + 1 := by omega
    clear hI hI2 hI3 hx1 HL hbl b7 b8 G8 hkr
    have hI6 : I ≤ S.size := by omega
    have HJ := Lib.hid hJ1
    have hJ3 : (J : Int) ≤ 16 := by omega
    have hw1 : IntKind.i64.wrap (J : Int) = (J : Int) := by simp [IntKind.wrap, IntKind.bits, IntKind.signed]; omega
    have hw2 : IntKind.u8.wrap (J : Int) = (J : Int) := by simp [IntKind.wrap, IntKind.bits, IntKind.signed]; omega
    clear hJ1
    go_region_law (first
        | (refine step_bytes_row rfl (.tmp 41) (.tmp 47) rfl (Y + 1) ?g3 v8 acc ?g4 ?g5 w8.heap.size [0, UInt8.ofNat J] ?g6 ?g7 ?g8 ?_
           case g3 => (simp; omega)
           case g4 => simp [Act.eval]
           case g5 => first | exact O8.out.alloc _ | exact World.ownsRow.alloc O8.out _
           case g6 => simp [Act.eval]
           case g7 =>
             intro j hj
             match j, hj with
             | 0, _ => first | exact new_cellB w8 _ _ 0 _ rfl
             | 1, _ => exact (new_cellB w8 _ _ 1 _ rfl).trans (congrArg (fun z => some (Value.int .u8 z)) hy1.symm)
           case g8 => (simp; omega)
           intro v9 w9 own9 g9
           have hobs := HOB8.out
           have O9 := Lib.hid own9
           have hb9 : Below (Y + 1) w7 w9 := Below.grown (B8.out.alloc (by omega) _).drew g9 (by simp; omega) (fun q hq => (hobs q hq).1)
           have hs9 : Y + 1 ≤ w9.heap.size := by have h := g9.size; simp at h; omega)
        | (refine step_bytes_str rfl (.tmp 48) (.tmp 51) rfl (Y + 1) ?g3 v9 (acc ++ [0, UInt8.ofNat J]) ?g4 O9.out (S.extract I S.size) ?g6 ?g8 ?_
           case g3 => omega
           case g4 => simp [Act.eval]
           case g6 => simp [Act.eval]
           case g8 => (simp only [List.length_append, List.length_cons, List.length_nil]; omega)
           intro va wa owna ga))
    have hoba := fun q hq => World.ownsRow.lt O9.out q hq
    have hba : Below (Y + 1) w7 wa := Below.grown hb9 ga hs9 (fun q hq => (hoba q hq).1)
    have OA := Lib.hid owna
    have BA := Lib.hid hba
    have hsa := hba.size
    clear hoba hba ga owna hb9 hs9 O9
    have hm2 : (S.size : Int) % 256 = (S.size : Int) := by omega
    have hz1 : ((UInt8.ofNat S.size).toNat : Int) = (S.size : Int) := by rw [UInt8.toNat_ofNat']; omega
    have HL2 := Lib.hid (OwnsB.lit wa [0, UInt8.ofNat S.size] wa.heap.size (Nat.le_refl _) (by unfold maxLen; simp))
    simp only [List.map_cons, List.map_nil, hz1] at HL2
    have hbl2 : wa.heap.size ≤ (wa.alloc (.cells #[.int .u8 0, .int .u8 (S.size : Int)] 5)).heap.size := by simp
    go_wp2_with (at_builtin; refine wpList_bytes_str rfl _ _ rfl wa.heap.size hbl2 _ [0, UInt8.ofNat S.size] rfl HL2.out S rfl (by simp; omega) ?_; intro vo wo owno go; have OO := Lib.hid owno; have GO := Lib.hid go; clear owno go)
    have hbo : Below wa.heap.size wa wo := below_own7 GO.out (Nat.le_refl _)
    have hso := hbo.size
    have hBW : Below w.heap.size w wo := B7.out.trans ((BA.out.mono hIY).trans (hbo.mono (by omega)))
    have hkr : wo.heap[Y]? = some (.cells #[.int .u64 (n64 kA), .int .u64 (n64 kB)] 25 (0, 0)) := (hbo.block Y (by omega)).trans ((BA.out.block Y (by omega)).trans HKR.out)
    have k0 : wo.cell? ⟨Y, 0, none⟩ = some (.int .u64 (n64 kA)) := by rw [cell_of_row _ _ _ _ _ _ hkr]; rfl
    have k1 : wo.cell? ⟨Y, 1, none⟩ = some (.int .u64 (n64 kB)) := by rw [cell_of_row _ _ _ _ _ _ hkr]; rfl
    have hYr : Y < wo.heap.size := by omega
    have HC := Lib.hid (fun W (h : Below wo.heap.size wo W) => show (W.cell? ⟨Y, 0, none⟩ = some (.int .u64 (n64 kA)) ∧ W.cell? ⟨Y, 1, none⟩ = some (.int .u64 (n64 kB))) from ⟨(h.cell (p := ⟨Y, 0, none⟩) hYr).trans k0, (h.cell (p := ⟨Y, 1, none⟩) hYr).trans k1⟩)
    have hx1 : (S.extract 0 I).size = I := by simp; omega
    have hx2 : (S.extract I S.size).size = J := by have := HJ.out; simp; omega
    have hp1 : partsL [S.extract 0 I, S.extract I S.size] = acc ++ [0, UInt8.ofNat J] ++ (S.extract I S.size).data.toList := by
      unfold partsL
      rw [List.flatMap_cons, List.flatMap_singleton, part_small _ (by omega), part_small _ (by omega), hx1, hx2, ← HACC.out]
      simp only [List.append_assoc]
    have hp2 : partsL [S] = [0, UInt8.ofNat S.size] ++ S.data.toList := by
      unfold partsL
      rw [List.flatMap_singleton, part_small _ (by omega)]
    have hp3 : partsL [S, ⟨#[]⟩] = [] ++ ([0, UInt8.ofNat S.size] ++ S.data.toList) ++ [0, 0] := by
      unfold partsL
      rw [List.flatMap_cons, List.flatMap_singleton, part_small _ (by omega)]
      rfl
    have hEW := fun W (h : Below wo.heap.size wo W) => HE.out.below (der_same hBW h) (Nat.le_refl _)
    have hisA := (OA.out.is.keep hbo).more hso
    have hisO := OO.out.is
    have hlA : (acc ++ [0, UInt8.ofNat J] ++ (S.extract I S.size).data.toList).length ≤ 1000 := by
      rw [List.length_append, List.length_append, size_list]; simp only [List.length_cons, List.length_nil]; omega
    have hlO : ([0, UInt8.ofNat S.size] ++ S.data.toList).length ≤ 1000 := by
      rw [List.length_append, size_list]; simp only [List.length_cons, List.length_nil]; omega
    have HS1 := Lib.hid (fun W q (h : Below wo.heap.size wo W) (h0 : W.cell? ⟨q, 0, none⟩ = some (.string (S.extract 0 I))) (h1 : W.cell? ⟨q, 1, none⟩ = some (.string (S.extract I S.size))) => Parts_any (q + 1) kA kB _ [S.extract 0 I, S.extract I S.size] W (hEW W h) (texts_two h0 h1) (Nat.succ_le_of_lt (World.block_lt_of_cell? W _ h0)) (by simp) (pair_len (by unfold maxLen; omega) (by unfold maxLen; omega)))
    have HR1 := Lib.hid (fun W (h : Below wo.heap.size wo W) => rSum_any wo.heap.size kA kB va (acc ++ [0, UInt8.ofNat J] ++ (S.extract I S.size).data.toList) W (hisA.keep h) h.size (by omega))
    have HS2 := Lib.hid (fun W q (h : Below wo.heap.size wo W) (h0 : W.cell? ⟨q, 0, none⟩ = some (.string S)) => Parts_any (q + 1) kA kB _ [S] W (hEW W h) (texts_one h0) (Nat.succ_le_of_lt (World.block_lt_of_cell? W _ h0)) (by simp) (fun x hx => by rw [List.mem_singleton.1 hx]; unfold maxLen; omega))
    have HR2 := Lib.hid (fun W (h : Below wo.heap.size wo W) => rSum_any wo.heap.size kA kB vo ([0, UInt8.ofNat S.size] ++ S.data.toList) W (hisO.keep h) h.size (by omega))
    have HS3 := Lib.hid (fun W q (h : Below wo.heap.size wo W) (h0 : W.cell? ⟨q, 0, none⟩ = some (.string S)) (h1 : W.cell? ⟨q, 1, none⟩ = some (.string ⟨#[]⟩)) => Parts_any (q + 1) kA kB _ [S, ⟨#[]⟩] W (hEW W h) (texts_two h0 h1) (Nat.succ_le_of_lt (World.block_lt_of_cell? W _ h0)) (by simp) (pair_len (by unfold maxLen; omega) (by decide)))
    have HR3 := Lib.hid (fun W v (h : Below wo.heap.size wo W) (ho : OwnsB wo.heap.size W v ([] ++ ([0, UInt8.ofNat S.size] ++ S.data.toList) ++ [0, 0])) => Sum_any W.heap.size kA kB v _ W (hEW W h) ho.is (Nat.le_refl _) (by rw [List.length_append, List.nil_append]; simp only [List.length_cons, List.length_nil] at hlO ⊢; omega))
    unfold ptV at HS1 HS2 HS3
    rw [hp1] at HS1
    rw [hp2] at HS2
    rw [hp3] at HS3
    obtain ⟨oa, oc, rfl, ho1, ho2, ho3⟩ := hisO
    obtain ⟨ob, oo, rfl, hob, hocell⟩ : ∃ b o, oa = some ⟨b, o, none⟩ ∧ b < wo.heap.size ∧ ∀ j x, ([0, UInt8.ofNat S.size] ++ S.data.toList)[j]? = some x → wo.cell? ⟨b, o + j, none⟩ = some (.int .u8 (x.toNat : Int)) := by
      rcases ho3 with h | h
      · cases h
      · exact h
    generalize hL1 : [0, UInt8.ofNat S.size] ++ S.data.toList = L1 at *
    clear hL1
    generalize SM.sum kA kB (acc ++ [0, UInt8.ofNat J] ++ (S.extract I S.size).data.toList) = P1 at *
    generalize SM.sum kA kB L1 = P2 at *
    generalize SM.sum kA kB ([] ++ L1 ++ [0, 0]) = P3 at *
    unfold keyV at *
    have HOC := Lib.hid (fun W (h : Below wo.heap.size wo W) j x hx => (h.cell (p := ⟨ob, oo + j, none⟩) hob).trans (hocell j x hx))
    have HBW := Lib.hid hBW
    have hcur : Below wo.heap.size wo wo := Below.refl _ wo
    have hlO' := hlO
    clear hEW hisA hlA ho1 ho2 ho3 hocell hp1 hp2 hp3 hx1 hx2 HKR HACC OA BA B7 GO O8 HOB8 B8 hkr hbo hBW hw1 hw2 hJ hJ2 hJ3 hm2 hz1 HL2 hbl2 hacc hX2 HJ hy1
    go_wp2_with fail
    go_region_held3 (fun w' => w'.cell? ⟨Y, 0, none⟩ = some (.int .u64 (n64 kA)) ∧ w'.cell? ⟨Y, 1, none⟩ = some (.int .u64 (n64 kB)))
        (first | go_keep | exact hst)
        (first
          | (have hstage := st7
             go_at_call 13
             refine (HR3.out _ _ ?gb ?go).mono ?_
             case gb => exact hcur
             case go => exact O70.out
             rintro e u ⟨rfl, bu⟩
             have hcur : Below wo.heap.size wo u := der_same hcur bu
             have hst := HC.out u hcur
             have st8 := trivial)
          | (have hstage := st6
             refine step_bytes_zero ?gw (.tmp 89) (.tmp 90) ?g2 wo.heap.size ?g3 v6 ([] ++ L1) ?g4 ?g5 ?g6 ?g8 ?_
             case g2 => rfl
             case gw => first | rfl | (go_simp; done)
             case g3 => (have hz := hcur.size; simp; omega)
             case g4 => simp [Act.eval]
             case g5 => first | exact O6.out | exact O6.out.alloc _
             case g6 =>
               apply Exists.intro
               refine And.intro ?_ ?_
               · simp [Act.eval]
                 rfl
               · exact ⟨(by first | exact new_cellB _ _ _ 0 _ rfl | exact cell_one8 (new_cellB _ _ _ 0 _ rfl) | exact two_cell8 _ _ _ _ 0 _ rfl | exact hkeep _ _ (new_cellB _ _ _ 0 _ rfl) | exact hkeep _ _ (cell_one8 (new_cellB _ _ _ 0 _ rfl)) | exact hkeep _ _ (two_cell8 _ _ _ _ 0 _ rfl) | exact hkeep _ _ (hkeep2 _ _ (new_cellB _ _ _ 0 _ rfl)) | exact hkeep _ _ (hkeep2 _ _ (cell_one8 (new_cellB _ _ _ 0 _ rfl))) | exact hkeep _ _ (hkeep2 _ _ (two_cell8 _ _ _ _ 0 _ rfl))), (by first | exact new_cellB _ _ _ 1 _ rfl | exact cell_one8 (new_cellB _ _ _ 1 _ rfl) | exact two_cell8 _ _ _ _ 1 _ rfl | exact hkeep _ _ (new_cellB _ _ _ 1 _ rfl) | exact hkeep _ _ (cell_one8 (new_cellB _ _ _ 1 _ rfl)) | exact hkeep _ _ (two_cell8 _ _ _ _ 1 _ rfl) | exact hkeep _ _ (hkeep2 _ _ (new_cellB _ _ _ 1 _ rfl)) | exact hkeep _ _ (hkeep2 _ _ (cell_one8 (new_cellB _ _ _ 1 _ rfl))) | exact hkeep _ _ (hkeep2 _ _ (two_cell8 _ _ _ _ 1 _ rfl)))⟩
             case g8 => (simp; omega)
             intro v70 w70 own70 g70
             have hobz := fun q hq => World.ownsRow.lt O6.out q hq
             have hb70 : Below wo.heap.size wo w70 := Below.grown (by first | exact hcur | exact der_al hcur | exact der_al (der_al hcur) | exact (der_al hcur).drew | exact (der_al (der_al hcur)).drew | exact hcur.drew) g70 (by have hz := hcur.size; simp; omega) (fun q hq => (hobz q hq).1)
             have hcur := hb70
             have O70 := Lib.hid own70
             have hst := HC.out w70 hcur
             have st7 := trivial)
          | (have hstage := st5
             refine step_bytes_any ?gw (.const (.slice none 0 0)) (.tmp 88) ?g2 wo.heap.size ?g3 (.slice none 0 0) [] ?g4 ?g5 ob oo oc L1 ?g6 ?g7 ?g8 ?_
             case g2 => rfl
             case gw => first | rfl | (go_simp; done)
             case g3 => (have hz := hcur.size; simp; omega)
             case g4 => simp [Act.eval]
             case g5 => exact World.ownsRow_nil _ _ _ _
             case g6 => simp [Act.eval]
             case g7 => exact HOC.out _ (by first | exact hcur | exact der_al hcur | exact der_al (der_al hcur) | exact (der_al hcur).drew | exact (der_al (der_al hcur)).drew | exact hcur.drew)
             case g8 => (simp; omega)
             intro v6 w60 own6 g60
             have hb6 := below_none5 g60 (Nat.le_refl _)
             have hcur : Below wo.heap.size wo w60 := der_same (by first | exact hcur | exact der_al hcur | exact der_al (der_al hcur) | exact (der_al hcur).drew | exact (der_al (der_al hcur)).drew | exact hcur.drew) hb6
             have hkeep2 := hkeep
             have hkeep := der_keep5 hb6
             have O6 := Lib.hid own6
             have hst := HC.out w60 hcur
             have st6 := trivial)
          | (have hstage := st4
             go_at_call 15
             refine (HS3.out _ _ ?gb ?c0 ?c1).mono ?_
             case gb => first | exact hcur | exact der_al hcur | exact der_al (der_al hcur) | exact (der_al hcur).drew | exact (der_al (der_al hcur)).drew | exact hcur.drew
             case c0 => first | exact new_cellB _ _ _ 0 _ rfl | exact cell_one8 (new_cellB _ _ _ 0 _ rfl) | exact two_cell8 _ _ _ _ 0 _ rfl | exact cell_drew8 (new_cellB _ _ _ 0 _ rfl) | exact cell_drew8 (cell_one8 (new_cellB _ _ _ 0 _ rfl)) | exact cell_drew8 (two_cell8 _ _ _ _ 0 _ rfl) | exact hkeep _ _ (new_cellB _ _ _ 0 _ rfl) | exact hkeep _ _ (cell_one8 (new_cellB _ _ _ 0 _ rfl)) | exact hkeep _ _ (two_cell8 _ _ _ _ 0 _ rfl) | exact hkeep _ _ (cell_drew8 (new_cellB _ _ _ 0 _ rfl)) | exact hkeep _ _ (cell_drew8 (cell_one8 (new_cellB _ _ _ 0 _ rfl))) | exact hkeep _ _ (cell_drew8 (two_cell8 _ _ _ _ 0 _ rfl)) | exact cell_one8 (hkeep _ _ (new_cellB _ _ _ 0 _ rfl)) | exact cell_one8 (hkeep _ _ (cell_one8 (new_cellB _ _ _ 0 _ rfl))) | exact cell_one8 (hkeep _ _ (two_cell8 _ _ _ _ 0 _ rfl)) | exact hkeep2 _ _ (hkeep _ _ (new_cellB _ _ _ 0 _ rfl)) | exact hkeep2 _ _ (hkeep _ _ (cell_one8 (new_cellB _ _ _ 0 _ rfl))) | exact hkeep2 _ _ (hkeep _ _ (two_cell8 _ _ _ _ 0 _ rfl))
             case c1 => first | exact new_cellB _ _ _ 1 _ rfl | exact cell_one8 (new_cellB _ _ _ 1 _ rfl) | exact two_cell8 _ _ _ _ 1 _ rfl | exact cell_drew8 (new_cellB _ _ _ 1 _ rfl) | exact cell_drew8 (cell_one8 (new_cellB _ _ _ 1 _ rfl)) | exact cell_drew8 (two_cell8 _ _ _ _ 1 _ rfl) | exact hkeep _ _ (new_cellB _ _ _ 1 _ rfl) | exact hkeep _ _ (cell_one8 (new_cellB _ _ _ 1 _ rfl)) | exact hkeep _ _ (two_cell8 _ _ _ _ 1 _ rfl) | exact hkeep _ _ (cell_drew8 (new_cellB _ _ _ 1 _ rfl)) | exact hkeep _ _ (cell_drew8 (cell_one8 (new_cellB _ _ _ 1 _ rfl))) | exact hkeep _ _ (cell_drew8 (two_cell8 _ _ _ _ 1 _ rfl)) | exact cell_one8 (hkeep _ _ (new_cellB _ _ _ 1 _ rfl)) | exact cell_one8 (hkeep _ _ (cell_one8 (new_cellB _ _ _ 1 _ rfl))) | exact cell_one8 (hkeep _ _ (two_cell8 _ _ _ _ 1 _ rfl)) | exact hkeep2 _ _ (hkeep _ _ (new_cellB _ _ _ 1 _ rfl)) | exact hkeep2 _ _ (hkeep _ _ (cell_one8 (new_cellB _ _ _ 1 _ rfl))) | exact hkeep2 _ _ (hkeep _ _ (two_cell8 _ _ _ _ 1 _ rfl))
             rintro e u ⟨rfl, bu⟩
             have hcur : Below wo.heap.size wo u := der_same (by first | exact hcur | exact der_al hcur | exact der_al (der_al hcur) | exact (der_al hcur).drew | exact (der_al (der_al hcur)).drew | exact hcur.drew) bu
             have hkeep := der_keep5 bu
             have hst := HC.out u hcur
             have st5 := trivial)
          | (have hstage := st3
             go_at_call 14
             refine (HR2.out _ ?gb ).mono ?_
             case gb => first | exact hcur | exact der_al hcur | exact der_al (der_al hcur) | exact (der_al hcur).drew | exact (der_al (der_al hcur)).drew | exact hcur.drew
             rintro e u ⟨rfl, bu⟩
             have hcur : Below wo.heap.size wo u := der_same (by first | exact hcur | exact der_al hcur | exact der_al (der_al hcur) | exact (der_al hcur).drew | exact (der_al (der_al hcur)).drew | exact hcur.drew) bu
             have hkeep := der_keep5 bu
             have hst := HC.out u hcur
             have st4 := trivial)
          | (have hstage := st2
             go_at_call 15
             refine (HS2.out _ _ ?gb ?c0).mono ?_
             case gb => first | exact hcur | exact der_al hcur | exact der_al (der_al hcur) | exact (der_al hcur).drew | exact (der_al (der_al hcur)).drew | exact hcur.drew
             case c0 => first | exact new_cellB _ _ _ 0 _ rfl | exact cell_one8 (new_cellB _ _ _ 0 _ rfl) | exact two_cell8 _ _ _ _ 0 _ rfl | exact cell_drew8 (new_cellB _ _ _ 0 _ rfl) | exact cell_drew8 (cell_one8 (new_cellB _ _ _ 0 _ rfl)) | exact cell_drew8 (two_cell8 _ _ _ _ 0 _ rfl) | exact hkeep _ _ (new_cellB _ _ _ 0 _ rfl) | exact hkeep _ _ (cell_one8 (new_cellB _ _ _ 0 _ rfl)) | exact hkeep _ _ (two_cell8 _ _ _ _ 0 _ rfl) | exact hkeep _ _ (cell_drew8 (new_cellB _ _ _ 0 _ rfl)) | exact hkeep _ _ (cell_drew8 (cell_one8 (new_cellB _ _ _ 0 _ rfl))) | exact hkeep _ _ (cell_drew8 (two_cell8 _ _ _ _ 0 _ rfl)) | exact cell_one8 (hkeep _ _ (new_cellB _ _ _ 0 _ rfl)) | exact cell_one8 (hkeep _ _ (cell_one8 (new_cellB _ _ _ 0 _ rfl))) | exact cell_one8 (hkeep _ _ (two_cell8 _ _ _ _ 0 _ rfl)) | exact hkeep2 _ _ (hkeep _ _ (new_cellB _ _ _ 0 _ rfl)) | exact hkeep2 _ _ (hkeep _ _ (cell_one8 (new_cellB _ _ _ 0 _ rfl))) | exact hkeep2 _ _ (hkeep _ _ (two_cell8 _ _ _ _ 0 _ rfl))
             rintro e u ⟨rfl, bu⟩
             have hcur : Below wo.heap.size wo u := der_same (by first | exact hcur | exact der_al hcur | exact der_al (der_al hcur) | exact (der_al hcur).drew | exact (der_al (der_al hcur)).drew | exact hcur.drew) bu
             have hkeep := der_keep5 bu
             have hst := HC.out u hcur
             have st3 := trivial)
          | (have hstage := st1
             go_at_call 14
             refine (HR1.out _ ?gb ).mono ?_
             case gb => first | exact hcur | exact der_al hcur | exact der_al (der_al hcur) | exact (der_al hcur).drew | exact (der_al (der_al hcur)).drew | exact hcur.drew
             rintro e u ⟨rfl, bu⟩
             have hcur : Below wo.heap.size wo u := der_same (by first | exact hcur | exact der_al hcur | exact der_al (der_al hcur) | exact (der_al hcur).drew | exact (der_al (der_al hcur)).drew | exact hcur.drew) bu
             have hkeep := der_keep5 bu
             have hst := HC.out u hcur
             have st2 := trivial)
          | (go_at_call 15
             refine (HS1.out _ _ ?gb ?c0 ?c1).mono ?_
             case gb => first | exact hcur | exact der_al hcur | exact der_al (der_al hcur) | exact (der_al hcur).drew | exact (der_al (der_al hcur)).drew | exact hcur.drew
             case c0 => first | exact new_cellB _ _ _ 0 _ rfl | exact cell_one8 (new_cellB _ _ _ 0 _ rfl) | exact two_cell8 _ _ _ _ 0 _ rfl | exact cell_drew8 (new_cellB _ _ _ 0 _ rfl) | exact cell_drew8 (cell_one8 (new_cellB _ _ _ 0 _ rfl)) | exact cell_drew8 (two_cell8 _ _ _ _ 0 _ rfl) | exact hkeep _ _ (new_cellB _ _ _ 0 _ rfl) | exact hkeep _ _ (cell_one8 (new_cellB _ _ _ 0 _ rfl)) | exact hkeep _ _ (two_cell8 _ _ _ _ 0 _ rfl) | exact hkeep _ _ (cell_drew8 (new_cellB _ _ _ 0 _ rfl)) | exact hkeep _ _ (cell_drew8 (cell_one8 (new_cellB _ _ _ 0 _ rfl))) | exact hkeep _ _ (cell_drew8 (two_cell8 _ _ _ _ 0 _ rfl)) | exact cell_one8 (hkeep _ _ (new_cellB _ _ _ 0 _ rfl)) | exact cell_one8 (hkeep _ _ (cell_one8 (new_cellB _ _ _ 0 _ rfl))) | exact cell_one8 (hkeep _ _ (two_cell8 _ _ _ _ 0 _ rfl)) | exact hkeep2 _ _ (hkeep _ _ (new_cellB _ _ _ 0 _ rfl)) | exact hkeep2 _ _ (hkeep _ _ (cell_one8 (new_cellB _ _ _ 0 _ rfl))) | exact hkeep2 _ _ (hkeep _ _ (two_cell8 _ _ _ _ 0 _ rfl))
             case c1 => first | exact new_cellB _ _ _ 1 _ rfl | exact cell_one8 (new_cellB _ _ _ 1 _ rfl) | exact two_cell8 _ _ _ _ 1 _ rfl | exact cell_drew8 (new_cellB _ _ _ 1 _ rfl) | exact cell_drew8 (cell_one8 (new_cellB _ _ _ 1 _ rfl)) | exact cell_drew8 (two_cell8 _ _ _ _ 1 _ rfl) | exact hkeep _ _ (new_cellB _ _ _ 1 _ rfl) | exact hkeep _ _ (cell_one8 (new_cellB _ _ _ 1 _ rfl)) | exact hkeep _ _ (two_cell8 _ _ _ _ 1 _ rfl) | exact hkeep _ _ (cell_drew8 (new_cellB _ _ _ 1 _ rfl)) | exact hkeep _ _ (cell_drew8 (cell_one8 (new_cellB _ _ _ 1 _ rfl))) | exact hkeep _ _ (cell_drew8 (two_cell8 _ _ _ _ 1 _ rfl)) | exact cell_one8 (hkeep _ _ (new_cellB _ _ _ 1 _ rfl)) | exact cell_one8 (hkeep _ _ (cell_one8 (new_cellB _ _ _ 1 _ rfl))) | exact cell_one8 (hkeep _ _ (two_cell8 _ _ _ _ 1 _ rfl)) | exact hkeep2 _ _ (hkeep _ _ (new_cellB _ _ _ 1 _ rfl)) | exact hkeep2 _ _ (hkeep _ _ (cell_one8 (new_cellB _ _ _ 1 _ rfl))) | exact hkeep2 _ _ (hkeep _ _ (two_cell8 _ _ _ _ 1 _ rfl))
             rintro e u ⟨rfl, bu⟩
             have hcur : Below wo.heap.size wo u := der_same (by first | exact hcur | exact der_al hcur | exact der_al (der_al hcur) | exact (der_al hcur).drew | exact (der_al (der_al hcur)).drew | exact hcur.drew) bu
             have hkeep := der_keep5 bu
             have hst := HC.out u hcur
             have st1 := trivial))
    all_goals
      have HR := Lib.hid (der_same HBW.out hcur)
      clear HC HS1 HS2 HS3 HR1 HR2 HR3 HOC HBW hst hkeep hkeep2 k0 k1 O6 O70 hobz hb6 hb70 hlO hlO'
      go_wp2
      go_ret
      exact ⟨rfl, HR.out⟩
  · have hd : decide (n ≤ 400) = false := by simp [hn]
    rw [hd]
    clear hd
    go_wp2_with fail
    refine (awake8_any w1 HE1.out).mono ?_
    rintro e w2 ⟨rfl, b2⟩
    go_wp2
    go_ret
    exact ⟨rfl, der_same b1 b2⟩
end Go.Proofs.Ytlcfpdbiippenaa
