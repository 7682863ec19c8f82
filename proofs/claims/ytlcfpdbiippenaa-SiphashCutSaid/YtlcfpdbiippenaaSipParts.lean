/- A row of bytes that a call builds; the walks of the reference's Parts and Derive. -/
import Derived.Test.YtlcfpdbiippenaaSipSum
import Derived.Laws.OwnMore
import Derived.Laws.BytesArg
import Derived.Lib.AppendStr
import Derived.Deep.RegionLaw
namespace Go.Proofs.Ytlcfpdbiippenaa
open Go.RowKit
set_option linter.unusedVariables false
set_option maxRecDepth 100000

theorem byteInfo : (Try.prog.info? 5).map (fun i => (i.zero, i.size, i.bytes)) = some (some (.int .u8 0), 1, 1) := by kernel_rfl
/-- A slice of bytes of this call's own. -/
def OwnsB (base : Nat) (w : World) (v : Value) (l : List UInt8) : Prop := w.ownsRow base 5 1 v l.length (l.map fun b => Value.int .u8 (b.toNat : Int))
theorem OwnsB.alloc {base : Nat} {w : World} {v : Value} {l : List UInt8} (h : OwnsB base w v l) (o : Obj) : OwnsB base (w.alloc o) v l := World.ownsRow.alloc h o
theorem convOwn {base : Nat} {W : World} {v : Value} {l : List UInt8} (h : OwnsB base W v l) : (convert 26 9 v).run Try.prog W = .ok (.string (bs l)) W := by
  rcases h.2 with ⟨hv, h1⟩ | ⟨g, cap, cur, hv, hbg, hg, hnc, hcm, hcs, htake⟩
  · obtain rfl := List.eq_nil_of_length_eq_zero h1
    rw [hv]
    exact run_convert_bytes_nil W 26 5 Try.underlying26 Try.underlying5 0 0 9 Try.underlying9
  · rw [hv]
    refine run_convert_bytes_back W 26 9 5 ⟨g, 0, none⟩ cap l Try.underlying26 Try.underlying5 Try.underlying9 ?_
    intro j hj
    exact World.ownsRow.cells h (g := g) (by rw [hv]; rfl) j (.int .u8 (l[j].toNat : Int)) (by rw [List.getElem?_map, List.getElem?_eq_getElem hj]; rfl)

theorem wpList_bytes_str {ops : Array Oper} {rest : List Oper} {o : Oper} {a : Act} {Q : Exit → Act → World → Prop} {w : World} (hgd : o.guard = none) (s x : Operand)
    (ho : o.op = .call { callee := .builtin .append, args := #[s, x], argTypes := #[26, 9] }) (base : Nat) (hbase : base ≤ w.heap.size)
    (v : Value) (acc : List UInt8) (hs : a.eval s = v) (hown : OwnsB base w v acc) (t : ByteArray) (hx : a.eval x = .string t) (hlen : acc.length + t.size ≤ 100000000)
    (h : ∀ v' w', OwnsB base w' v' (acc ++ t.data.toList) → w.grownBy w' v.ownBlock → wpList Try.prog ops Q rest (a.put o.dst v') w') : wpList Try.prog ops Q (o :: rest) a w := by
  obtain ⟨i0, hi0, hz0, hz1, hz2⟩ := info_parts byteInfo
  refine Lib.wpList_append_own_string w hgd s x 26 9 ho base 5 i0 Try.underlying26 Try.underlying9 hi0 hz0 hz1 hz2 v acc.length _ hs hown t hx (by unfold maxLen; omega) (by omega) hbase ?_
  intro v' w' hown' hgrow _
  refine h v' w' ?_ hgrow
  unfold OwnsB
  rw [List.map_append, List.length_append, size_list]
  exact hown'
theorem wp_bytes_row {o : Oper} {a : Act} {K : Act → World → Prop} {Q : Exit → Act → World → Prop} {w : World} (s x : Operand)
    (ho : o.op = .call { callee := .builtin .append, args := #[s, x], argTypes := #[26, 26] }) (base : Nat) (hbase : base ≤ w.heap.size)
    (v : Value) (acc : List UInt8) (hs : a.eval s = v) (hown : OwnsB base w v acc) (g : Nat) (l : List UInt8) (hx : a.eval x = .slice (some ⟨g, 0, none⟩) l.length l.length)
    (hc : ∀ j, ∀ hj : j < l.length, w.cell? ⟨g, j, none⟩ = some (.int .u8 (l[j].toNat : Int))) (hlen : acc.length + l.length ≤ 100000000)
    (h : ∀ v' w', OwnsB base w' v' (acc ++ l) → w.grownBy w' v.ownBlock → K (a.put o.dst v') w') : Oper.wp Try.prog o a w K Q := by
  obtain ⟨i0, hi0, hz0, hz1, hz2⟩ := info_parts byteInfo
  refine wp_append_own w s x 26 ho base 5 i0 (.int .u8 0) 1 1 Try.underlying26 hi0 hz0 hz1 hz2 rfl (by decide) v acc.length _ hs hown ⟨g, 0, none⟩ l.length l.length (l.map fun b => Value.int .u8 (b.toNat : Int)) hx (by simp) ?_ (fun u hu => by
    obtain ⟨y, _, rfl⟩ := List.mem_map.1 hu; rfl) (by unfold maxLen; omega) (by omega) hbase ?_
  · intro j u hj
    rw [List.getElem?_map] at hj
    obtain ⟨y, hy, rfl⟩ := Option.map_eq_some_iff.1 hj
    obtain ⟨hjl, rfl⟩ := List.getElem?_eq_some_iff.1 hy
    have hp : ((⟨g, 0, none⟩ : Addr).add j) = ⟨g, j, none⟩ := by unfold Addr.add; split <;> simp_all
    rw [hp]
    exact hc j hjl
  · intro v' w' hown' hgrow _
    refine h v' w' ?_ hgrow
    unfold OwnsB
    rw [List.map_append, List.length_append]
    exact hown'
theorem wpList_bytes_row {ops : Array Oper} {rest : List Oper} {o : Oper} {a : Act} {Q : Exit → Act → World → Prop} {w : World} (hgd : o.guard = none) (s x : Operand)
    (ho : o.op = .call { callee := .builtin .append, args := #[s, x], argTypes := #[26, 26] }) (base : Nat) (hbase : base ≤ w.heap.size)
    (v : Value) (acc : List UInt8) (hs : a.eval s = v) (hown : OwnsB base w v acc) (g : Nat) (l : List UInt8) (hx : a.eval x = .slice (some ⟨g, 0, none⟩) l.length l.length)
    (hc : ∀ j, ∀ hj : j < l.length, w.cell? ⟨g, j, none⟩ = some (.int .u8 (l[j].toNat : Int))) (hlen : acc.length + l.length ≤ 100000000)
    (h : ∀ v' w', OwnsB base w' v' (acc ++ l) → w.grownBy w' v.ownBlock → wpList Try.prog ops Q rest (a.put o.dst v') w') : wpList Try.prog ops Q (o :: rest) a w :=
  wpList_plain hgd fun _ hK => wp_bytes_row s x ho base hbase v acc hs hown g l hx hc hlen fun v' w' h2 h3 => hK _ _ (h v' w' h2 h3)
theorem step_bytes_row {ops : Array Oper} {o : Oper} {a : Act} {K : Act → World → Prop} {Q : Exit → Act → World → Prop} {E : Prop} {w : World} (hgd : o.guard = none) (s x : Operand)
    (ho : o.op = .call { callee := .builtin .append, args := #[s, x], argTypes := #[26, 26] }) (base : Nat) (hbase : base ≤ w.heap.size)
    (v : Value) (acc : List UInt8) (hs : a.eval s = v) (hown : OwnsB base w v acc) (g : Nat) (l : List UInt8) (hx : a.eval x = .slice (some ⟨g, 0, none⟩) l.length l.length)
    (hc : ∀ j, ∀ hj : j < l.length, w.cell? ⟨g, j, none⟩ = some (.int .u8 (l[j].toNat : Int))) (hlen : acc.length + l.length ≤ 100000000)
    (h : ∀ v' w', OwnsB base w' v' (acc ++ l) → w.grownBy w' v.ownBlock → K (a.put o.dst v') w') :
    if Region.wanted o (yielded ops a.tmps) = true then Oper.wp Try.prog o a w K Q else E := by
  have hw : Region.wanted o (yielded ops a.tmps) = true := by simp [Region.wanted, hgd]
  rw [if_pos hw]
  exact wp_bytes_row s x ho base hbase v acc hs hown g l hx hc hlen h

theorem new_cellB (w : World) (cs : Array Value) (T : TypeId) (k : Nat) (v : Value) (h : cs[k]? = some v) : (w.alloc (.cells cs T)).cell? ⟨w.heap.size, k, none⟩ = some v := by
  rw [cell_of_row _ _ _ _ _ _ (heap_alloc_new w _)]; exact h
theorem OwnsB.is {base : Nat} {w : World} {v : Value} {l : List UInt8} (h : OwnsB base w v l) : IsBs w.heap.size w v l := by
  rcases h.2 with ⟨hv, h0⟩ | ⟨g, cap, cur, hv, hbg, hg, hnc, hcm, hcs, htake⟩
  · obtain rfl := List.eq_nil_of_length_eq_zero h0
    exact ⟨none, 0, hv, Nat.le_refl _, Nat.zero_le _, .inl rfl⟩
  · refine ⟨_, cap, hv, hnc, hcm, .inr ⟨g, 0, rfl, (Array.getElem?_eq_some_iff.1 hg).1, fun j x hx => ?_⟩⟩
    have := World.ownsRow.cells h (g := g) (by rw [hv]; rfl) j (.int .u8 (x.toNat : Int)) (by rw [List.getElem?_map, hx]; rfl)
    have hp : ((⟨g, 0, none⟩ : Addr).add j) = ⟨g, j, none⟩ := by unfold Addr.add; split <;> simp_all
    rw [hp] at this
    rw [Nat.zero_add]
    exact this

/-- A text with its length in front. -/
def partL (l : List UInt8) : List UInt8 := UInt8.ofNat ((l.take 65535).length / 256) :: UInt8.ofNat ((l.take 65535).length % 256) :: l.take 65535
def partsL (xs : List ByteArray) : List UInt8 := xs.flatMap fun x => partL x.data.toList
theorem partL_len (l : List UInt8) : (partL l).length ≤ 65537 := by
  unfold partL
  simp only [List.length_cons, List.length_take]
  omega
theorem partsL_len (xs : List ByteArray) : (partsL xs).length ≤ 65537 * xs.length := by
  induction xs with
  | nil => exact Nat.le_refl _
  | cons x xs ih =>
    have e : partsL (x :: xs) = partL x.data.toList ++ partsL xs := by unfold partsL; rw [List.flatMap_cons]
    have := partL_len x.data.toList
    rw [e, List.length_append, List.length_cons]
    omega
theorem partsL_next (xs : List ByteArray) (k : Nat) (h : k < xs.length) : partsL (xs.take (k + 1)) = partsL (xs.take k) ++ partL xs[k].data.toList := by
  unfold partsL
  rw [List.take_succ_eq_append_getElem h, List.flatMap_append]
  simp
def ptV (kA kB : UInt64) (xs : List ByteArray) : UInt64 := SM.sum kA kB (partsL xs)
theorem two_bytes (T : ByteArray) (h : T.size ≤ 65535) : partL T.data.toList = [UInt8.ofNat (T.size / 256), UInt8.ofNat (T.size % 256)] ++ T.data.toList := by
  unfold partL
  rw [List.take_of_length_le (by rw [size_list]; exact h), size_list]
  rfl
theorem part_cut (x : ByteArray) (h : 65535 < x.size) : partL x.data.toList = partL (x.extract 0 65535).data.toList := by
  have e : (x.extract 0 65535).data.toList = x.data.toList.take 65535 := by rw [Lib.extract_data]; simp
  rw [e]
  unfold partL
  rw [List.take_take, Nat.min_self]

theorem hi_byte (m : Nat) (h : m ≤ 65535) : ((UInt8.ofNat (m / 256)).toNat : Int) = (m : Int) / 256 := by
  rw [UInt8.toNat_ofNat']
  omega
theorem lo_byte (m : Nat) : ((UInt8.ofNat (m % 256)).toNat : Int) = (m : Int) % 256 := by
  rw [UInt8.toNat_ofNat']
  omega
theorem cells_two (W : World) (T : TypeId) (m : Nat) (h : m ≤ 65535) : ∀ j, ∀ hj : j < [UInt8.ofNat (m / 256), UInt8.ofNat (m % 256)].length,
    (W.alloc (.cells #[.int .u8 ((m : Int) / 256), .int .u8 ((m : Int) % 256)] T)).cell? ⟨W.heap.size, j, none⟩ = some (.int .u8 ([UInt8.ofNat (m / 256), UInt8.ofNat (m % 256)][j].toNat : Int)) := by
  intro j hj
  match j, hj with
  | 0, _ => rw [new_cellB W _ T 0 (.int .u8 ((m : Int) / 256)) rfl]; exact congrArg (fun z => some (Value.int .u8 z)) (hi_byte m h).symm
  | 1, _ => rw [new_cellB W _ T 1 (.int .u8 ((m : Int) % 256)) rfl]; exact congrArg (fun z => some (Value.int .u8 z)) (lo_byte m).symm

set_option maxHeartbeats 2000000 in
theorem rParts_any (B : Nat) (kA kB : UInt64) (v : Value) (xs : List ByteArray) (w : World) (h : IsTexts B w v xs) (hB : B ≤ w.heap.size) (hl : xs.length ≤ 1000) (hz : ∀ x ∈ xs, x.size ≤ maxLen) :
    Calls Try.prog 16 #[keyV kA kB, v] w fun e w' => e = .returned (.int .u64 (n64 (ptV kA kB xs))) ∧ Below w.heap.size w w' := by
  have HX := Lib.hid h
  obtain ⟨A, cap, rfl, hc1, hc2, hc⟩ := h
  unfold maxLen at hc2 hz
  have HZ := Lib.hid hz
  clear hc hz
  have HO0 := Lib.hid (World.ownsRow_nil (w.alloc (.cells #[.int .u64 (n64 kA), .int .u64 (n64 kB)] 25)) (w.heap.size + 1) 5 1)
  have HB0 := Lib.hid (Below.refl (w.heap.size + 1) (w.alloc (.cells #[.int .u64 (n64 kA), .int .u64 (n64 kB)] 25)))
  unfold keyV
  go_enter Try.func16, Try.ntmps16
  go_wp2
  go_loopw [5, 6] (fun bv iv wr => ∃ k : Nat, k ≤ xs.length ∧ iv = .int .i64 k ∧ OwnsB (w.heap.size + 1) wr bv (partsL (xs.take k)) ∧ Below (w.heap.size + 1) (w.alloc (.cells #[.int .u64 (n64 kA), .int .u64 (n64 kB)] 25)) wr) (fun _ iv _ => xs.length - (intOf iv).toNat)
  case atStart => exact ⟨0, Nat.zero_le _, rfl, HO0.out, HB0.out⟩
  case round =>
    obtain ⟨k, hk, rfl, hown, hbw⟩ := hrel
    have HW := Lib.hid hown
    clear hown
    have hsz := hbw.size
    simp only [World.size_alloc] at hsz
    have hbw0 : Below w.heap.size w wr := ((Below.refl _ w).alloc (Nat.le_refl _) (.cells #[.int .u64 (n64 kA), .int .u64 (n64 kB)] 25)).trans (hbw.mono (Nat.le_succ _))
    by_cases hlt : k < xs.length
    · obtain ⟨b, o, c2, hv, -, -, hbB, hcell⟩ := HX.out.at_ (List.ne_nil_of_length_pos (by omega))
      injection hv with hv1 hv2 hv3
      subst hv1 hv3
      have k0 := (hbw0.cell (p := ⟨b, o + k, none⟩) (by show b < w.heap.size; omega)).trans (hcell k hlt)
      have hxz := HZ.out xs[k] (List.getElem_mem hlt)
      have HN := Lib.hid (partsL_next xs k hlt)
      have hal := partsL_len (xs.take k)
      have hal2 : (partsL (xs.take k)).length ≤ 70000000 := by
        rw [List.length_take] at hal
        have : min k xs.length ≤ 1000 := by omega
        have := Nat.mul_le_mul_left 65537 this
        omega
      have i1 : (k : Int) < (xs.length : Int) := by omega
      generalize xs[k] = x at *
      clear hcell hal
      generalize partsL (xs.take k) = acc at *
      have HOB := Lib.hid (fun q hq => World.ownsRow.lt HW.out q hq)
      by_cases hbig : 65535 < x.size
      · have q1 : (65535 : Int) < (x.size : Int) := by omega
        have hm : (min 65535 x.size) ≤ 65535 := by omega
        have hpart := Lib.hid (show partL x.data.toList = [UInt8.ofNat ((min 65535 x.size) / 256), UInt8.ofNat ((min 65535 x.size) % 256)] ++ (x.extract 0 65535).data.toList from by
          rw [part_cut x hbig, two_bytes _ (by simp; omega)]; simp)
        have HC2 := Lib.hid (cells_two wr 5 ((min 65535 x.size)) hm)
        have hbs : w.heap.size + 1 ≤ (wr.alloc (.cells #[.int .u8 ((((min 65535 x.size) : Nat) : Int) / 256), .int .u8 ((((min 65535 x.size) : Nat) : Int) % 256)] 5)).heap.size := by simp; omega
        go_wp2_with (at_builtin; refine wpList_bytes_row rfl _ _ rfl (w.heap.size + 1) hbs _ acc rfl (HW.out.alloc _) wr.heap.size [UInt8.ofNat ((min 65535 x.size) / 256), UInt8.ofNat ((min 65535 x.size) % 256)] rfl HC2.out (by simp; omega) ?_)
        intro v2 w2 own2 grow2
        have hb2 : Below (w.heap.size + 1) (w.alloc (.cells #[.int .u64 (n64 kA), .int .u64 (n64 kB)] 25)) w2 := (hbw.alloc hsz _).grown grow2 hbs (fun q hq => (HOB.out q hq).1)
        have hs2 : w.heap.size + 1 ≤ w2.heap.size := by have := hb2.size; simp only [World.size_alloc] at this; exact this
        have HOB2 := Lib.hid (fun q hq => World.ownsRow.lt own2 q hq)
        have O2 := Lib.hid own2
        have hzT : (x.extract 0 65535).size ≤ 65535 := by
          have hS : (x.extract 0 65535).size = (min 65535 x.size) := by simp
          omega
        have hl2 : (acc ++ [UInt8.ofNat ((min 65535 x.size) / 256), UInt8.ofNat ((min 65535 x.size) % 256)]).length + (x.extract 0 65535).size ≤ 100000000 := by rw [List.length_append]; simp only [List.length_cons, List.length_nil]; omega
        clear own2 grow2
        go_wp2_with (at_builtin; refine wpList_bytes_str rfl _ _ rfl (w.heap.size + 1) hs2 _ _ rfl O2.out ((x.extract 0 65535)) rfl hl2 ?_)
        intro v3 w3 own3 grow3
        have hb3 := hb2.grown grow3 hs2 (fun q hq => (HOB2.out q hq).1)
        have hown4 : Hid (OwnsB (w.heap.size + 1) w3 v3 (partsL (xs.take (k + 1)))) := by
          show OwnsB _ _ _ _
          rw [HN.out, hpart.out, ← List.append_assoc]
          first | exact own3 | simpa using own3
        clear own3 grow3
        go_wp2
        exact ⟨⟨k + 1, by omega, by go_num, hown4.out, hb3⟩, by simp [intOf]; omega⟩
      · have q1 : ¬ (65535 : Int) < (x.size : Int) := by omega
        have hm : x.size ≤ 65535 := by omega
        have hpart := Lib.hid (show partL x.data.toList = [UInt8.ofNat (x.size / 256), UInt8.ofNat (x.size % 256)] ++ x.data.toList from by
          exact two_bytes x (by omega))
        have HC2 := Lib.hid (cells_two wr 5 (x.size) hm)
        have hbs : w.heap.size + 1 ≤ (wr.alloc (.cells #[.int .u8 (((x.size : Nat) : Int) / 256), .int .u8 (((x.size : Nat) : Int) % 256)] 5)).heap.size := by simp; omega
        go_wp2_with (at_builtin; refine wpList_bytes_row rfl _ _ rfl (w.heap.size + 1) hbs _ acc rfl (HW.out.alloc _) wr.heap.size [UInt8.ofNat (x.size / 256), UInt8.ofNat (x.size % 256)] rfl HC2.out (by simp; omega) ?_)
        intro v2 w2 own2 grow2
        have hb2 : Below (w.heap.size + 1) (w.alloc (.cells #[.int .u64 (n64 kA), .int .u64 (n64 kB)] 25)) w2 := (hbw.alloc hsz _).grown grow2 hbs (fun q hq => (HOB.out q hq).1)
        have hs2 : w.heap.size + 1 ≤ w2.heap.size := by have := hb2.size; simp only [World.size_alloc] at this; exact this
        have HOB2 := Lib.hid (fun q hq => World.ownsRow.lt own2 q hq)
        have O2 := Lib.hid own2
        have hzT : x.size ≤ 65535 := by
          have hS : x.size = x.size := by simp
          omega
        have hl2 : (acc ++ [UInt8.ofNat (x.size / 256), UInt8.ofNat (x.size % 256)]).length + x.size ≤ 100000000 := by rw [List.length_append]; simp only [List.length_cons, List.length_nil]; omega
        clear own2 grow2
        go_wp2_with (at_builtin; refine wpList_bytes_str rfl _ _ rfl (w.heap.size + 1) hs2 _ _ rfl O2.out (x) rfl hl2 ?_)
        intro v3 w3 own3 grow3
        have hb3 := hb2.grown grow3 hs2 (fun q hq => (HOB2.out q hq).1)
        have hown4 : Hid (OwnsB (w.heap.size + 1) w3 v3 (partsL (xs.take (k + 1)))) := by
          show OwnsB _ _ _ _
          rw [HN.out, hpart.out, ← List.append_assoc]
          first | exact own3 | simpa using own3
        clear own3 grow3
        go_wp2
        exact ⟨⟨k + 1, by omega, by go_num, hown4.out, hb3⟩, by simp [intOf]; omega⟩
    · obtain rfl : k = xs.length := by omega
      rw [List.take_length] at HW
      have hal := partsL_len xs
      have hal2 : (partsL xs).length ≤ 70000000 := by
        have := Nat.mul_le_mul_left 65537 hl
        omega
      have c0 : wr.cell? ⟨w.heap.size, 0, none⟩ = some (.int .u64 (n64 kA)) := (hbw.cell (p := ⟨w.heap.size, 0, none⟩) (Nat.lt_succ_self _)).trans (new_cellB w _ _ 0 _ rfl)
      have c1 : wr.cell? ⟨w.heap.size, 1, none⟩ = some (.int .u64 (n64 kB)) := (hbw.cell (p := ⟨w.heap.size, 1, none⟩) (Nat.lt_succ_self _)).trans (new_cellB w _ _ 1 _ rfl)
      have HS := Lib.hid (rSum_any wr.heap.size kA kB _ (partsL xs) wr HW.out.is (Nat.le_refl _) (by omega))
      unfold keyV at HS
      clear hal
      go_wp2_with fail
      refine HS.out.mono ?_
      rintro e w3 ⟨rfl, b3⟩
      go_wp2
      go_ret
      exact ⟨rfl, hbw0.trans (b3.mono hbw0.size)⟩
end Go.Proofs.Ytlcfpdbiippenaa
