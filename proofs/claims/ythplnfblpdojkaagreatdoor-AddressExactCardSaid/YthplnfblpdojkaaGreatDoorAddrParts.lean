/- Walks of the address package's functions over slices: parted, mapped, trimmed; slices.Concat of two. -/
import Derived.Test.YthplnfblpdojkaaGreatDoorAddrMath
import Derived.Test.YthplnfblpdojkaaGreatDoorAddrPure
namespace Go.Proofs.YthplnfblpdojkaaGreatDoor
open Go.RowKit
set_option linter.unusedVariables false
set_option maxRecDepth 100000

/-- Two rows of one world, one of numbers and one of other words, do not share a block. -/
theorem rows_apart {base : Nat} {w : World} {v u : Value} {xs ys : List ByteArray} (h1 : w.ownsRow base 9 1 v xs.length (xs.map Value.string)) (h2 : w.ownsRow base 9 1 u ys.length (ys.map Value.string))
    (n1 : v = .slice none 0 0 ∨ xs ≠ []) (n2 : u = .slice none 0 0 ∨ ys ≠ []) (hx : ∀ x ∈ xs, ∀ y ∈ ys, x ≠ y) : v.ownBlock = none ∨ v.ownBlock ≠ u.ownBlock := by
  rcases n1 with rfl | n1
  · exact .inl rfl
  · rcases n2 with rfl | n2
    · cases h : v.ownBlock with
      | none => exact .inl rfl
      | some g => exact .inr (by simp [Value.ownBlock])
    · cases h : v.ownBlock with
      | none => exact .inl rfl
      | some g =>
        refine .inr fun e => ?_
        obtain ⟨x, xs, rfl⟩ := List.exists_cons_of_ne_nil n1
        obtain ⟨y, ys, rfl⟩ := List.exists_cons_of_ne_nil n2
        have c1 := h1.cells h 0 (.string x) rfl
        have c2 := h2.cells e.symm 0 (.string y) rfl
        rw [c1] at c2
        simp at c2
        exact hx x (by simp) y (by simp) c2
theorem nums_take (xs : List ByteArray) (k : Nat) (h : k < xs.length) : numsOf (xs.take (k + 1)) = numsOf (xs.take k) ++ (if numB xs[k] then [xs[k]] else []) := by
  unfold numsOf
  rw [List.take_succ_eq_append_getElem h, List.filter_append, List.filter_cons]
  split <;> simp
theorem rest_take (xs : List ByteArray) (k : Nat) (h : k < xs.length) : restOf (xs.take (k + 1)) = restOf (xs.take k) ++ (if numB xs[k] then [] else [xs[k]]) := by
  unfold restOf
  rw [List.take_succ_eq_append_getElem h, List.filter_append, List.filter_cons]
  cases hn : numB xs[k] <;> simp
theorem num_rest (xs ys : List ByteArray) : ∀ x ∈ numsOf xs, ∀ y ∈ restOf ys, x ≠ y := by
  intro x hx y hy e
  subst e
  have h1 := (List.mem_filter.1 hx).2
  have h2 := (List.mem_filter.1 hy).2
  rw [h1] at h2
  simp at h2
theorem nums_len (xs : List ByteArray) : (numsOf xs).length ≤ xs.length := List.length_filter_le _ _
theorem rest_len (xs : List ByteArray) : (restOf xs).length ≤ xs.length := List.length_filter_le _ _

/-- Two rows that grow beside one another: what a loop knows of them. -/
structure Pair2 (base : Nat) (w : World) (v u : Value) (xs ys : List ByteArray) : Prop where
  one : w.ownsRow base 9 1 v xs.length (xs.map Value.string)
  two : w.ownsRow base 9 1 u ys.length (ys.map Value.string)
  n1 : v = .slice none 0 0 ∨ xs ≠ []
  n2 : u = .slice none 0 0 ∨ ys ≠ []

set_option maxRecDepth 100000 in
set_option maxHeartbeats 2000000 in
theorem parted_any (B : Nat) (v : Value) (xs : List ByteArray) (w : World) (h : IsTexts B w v xs) (hB : B ≤ w.heap.size) (hl : xs.length ≤ 100000) :
    Calls Tryz.prog 32 #[v, .func (.func 34) #[] #[]] w fun e w' => ∃ a b, e = .returned (.tuple #[a, b]) ∧ (IsTexts w'.heap.size w' a (numsOf xs) ∧ Proper a) ∧ (IsTexts w'.heap.size w' b (restOf xs) ∧ Proper b) ∧ Below w.heap.size w w' := by
  obtain ⟨i0, hi0, hz0, hz1, hz2⟩ := info_parts strInfo
  obtain ⟨a, c, rfl, h1, h2, h3⟩ := h
  have HX := Lib.hid h3
  clear h3
  unfold maxLen at h2
  go_enter Tryz.func32, Tryz.ntmps32
  go_wp2
  go_loopw [4, 5, 10] (fun v u i wr => ∃ (k : Nat), k ≤ xs.length ∧ i = .int .i64 k ∧ Pair2 w.heap.size wr v u (numsOf (xs.take k)) (restOf (xs.take k)) ∧ Below w.heap.size w wr) (fun _ _ i _ => xs.length - (intOf i).toNat)
  case atStart => exact ⟨0, by omega, rfl, ⟨World.ownsRow_nil _ _ _ _, World.ownsRow_nil _ _ _ _, .inl rfl, .inl rfl⟩, Below.refl _ _⟩
  case round =>
    obtain ⟨k, hk, rfl, hp, hbw⟩ := hrel
    have HP := Lib.hid hp
    clear hp
    have hwr := hbw.size
    by_cases hlt : k < xs.length
    · obtain ⟨b, o, rfl, hbB, hc⟩ := HX.out.resolve_left (by intro e; rw [e] at hlt; exact absurd hlt (Nat.not_lt_zero _))
      have hc := (hbw.cell (p := ⟨b, o + k, none⟩) (by show b < w.heap.size; omega)).trans (hc k _ (List.getElem?_eq_getElem hlt))
      have HT1 := Lib.hid (nums_take xs k hlt)
      have HT2 := Lib.hid (rest_take xs k hlt)
      have hl1 : (numsOf (xs.take k)).length ≤ k := Nat.le_trans (nums_len _) (List.length_take_le _ _)
      have hl2 : (restOf (xs.take k)).length ≤ k := Nat.le_trans (rest_len _) (List.length_take_le _ _)
      go_wp2_with fail
      refine (isNumber_any xs[k] _).mono ?_
      rintro e w' ⟨rfl, rfl⟩
      cases hn : numB xs[k]
      · have HN := Lib.hid hn
        clear hn
        go_wp2_with (at_builtin; refine wpList_append_own _ rfl _ _ 23 rfl w.heap.size 9 i0 (.string ⟨#[]⟩) 1 16 Tryz.underlying23 hi0 hz0 hz1 hz2 rfl (by decide) _ _ _ rfl (HP.out.two.alloc _) ⟨wr.heap.size, 0, none⟩ 1 1 [.string xs[k]] rfl rfl ?c1 ?c2 ?c3 ?c4 ?c5 ?_)
        case c1 =>
          intro j u hj
          match j, hj with
          | 0, hj => simp at hj; subst hj; simp [Addr.add]
        case c2 => intro u hu; simp at hu; subst hu; rfl
        case c3 => unfold maxLen; omega
        case c4 => omega
        case c5 => simp; omega
        · intro v' w2 hown' hgrow _
          have hap := rows_apart (HP.out.two) (HP.out.one) HP.out.n2 HP.out.n1 (fun x hx y hy e => num_rest _ _ y hy x hx e.symm)
          have hkept := (HP.out.one.alloc (.cells #[.string xs[k]] 9)).kept hgrow (by
            rcases rows_apart (HP.out.one) (HP.out.two) HP.out.n1 HP.out.n2 (num_rest _ _) with h | h
            · exact .inl h
            · exact .inr h)
          go_wp2
          refine ⟨⟨k + 1, by omega, by go_num, ?_, ?_⟩, by simp [intOf]; omega⟩
          · rw [HT1.out, HT2.out, HN.out]
            exact ⟨by simpa using hkept, by simpa using hown', by simpa using HP.out.n1, .inr (by simp)⟩
          · exact (hbw.alloc (by omega) _).grown hgrow (by simp; omega) (fun g hg => (HP.out.two.lt g hg).1)
      · have HN := Lib.hid hn
        clear hn
        go_wp2_with (at_builtin; refine wpList_append_own _ rfl _ _ 23 rfl w.heap.size 9 i0 (.string ⟨#[]⟩) 1 16 Tryz.underlying23 hi0 hz0 hz1 hz2 rfl (by decide) _ _ _ rfl (HP.out.one.alloc _) ⟨wr.heap.size, 0, none⟩ 1 1 [.string xs[k]] rfl rfl ?c1 ?c2 ?c3 ?c4 ?c5 ?_)
        case c1 =>
          intro j u hj
          match j, hj with
          | 0, hj => simp at hj; subst hj; simp [Addr.add]
        case c2 => intro u hu; simp at hu; subst hu; rfl
        case c3 => unfold maxLen; omega
        case c4 => omega
        case c5 => simp; omega
        · intro v' w2 hown' hgrow _
          have hkept := (HP.out.two.alloc (.cells #[.string xs[k]] 9)).kept hgrow (by
            rcases rows_apart (HP.out.two) (HP.out.one) HP.out.n2 HP.out.n1 (fun x hx y hy e => num_rest _ _ y hy x hx e.symm) with h | h
            · exact .inl h
            · exact .inr h)
          go_wp2
          refine ⟨⟨k + 1, by omega, by go_num, ?_, ?_⟩, by simp [intOf]; omega⟩
          · rw [HT1.out, HT2.out, HN.out]
            exact ⟨by simpa using hown', by simpa using hkept, .inr (by simp), by simpa using HP.out.n2⟩
          · exact (hbw.alloc (by omega) _).grown hgrow (by simp; omega) (fun g hg => (HP.out.one.lt g hg).1)
    · go_wp2
      go_ret2
      have h1 := HP.out.one
      have h2 := HP.out.two
      rw [List.take_of_length_le (by omega)] at h1 h2
      exact ⟨_, _, rfl, ⟨IsTexts.of_own h1, proper_own h1⟩, ⟨IsTexts.of_own h2, proper_own h2⟩, hbw⟩

set_option maxHeartbeats 1000000 in
theorem replaced_any (B : Nat) (v : Value) (ps : List (ByteArray × ByteArray)) (x : ByteArray) (w : World) (h : IsPairs B w v ps) (hB : B ≤ w.heap.size) :
    Calls Tryz.prog 60 #[.string x, v] w fun e w' => e = .returned (.string (canonB ps x)) ∧ Below w.heap.size w w' := by
  by_cases hne : ps = []
  · subst hne
    obtain ⟨a, c, rfl⟩ := h.nil_
    clear h
    go_enter Tryz.func60, Tryz.ntmps60
    go_wp2
    go_loop [9] (fun i => i = .int .i64 0) (fun _ => 0)
    case atStart => rfl
    case round =>
      obtain rfl := hrel
      go_wp2
      go_ret
      exact ⟨rfl, Below.refl _ _⟩
  · obtain ⟨b, o, c, rfl, h1, h2, hlt, hc⟩ := h.at_ hne
    have hbw0 : b < w.heap.size := by omega
    have HC := Lib.hid hc
    clear hc h
    unfold maxLen at h2
    go_enter Tryz.func60, Tryz.ntmps60
    go_wp2
    go_loopw [9] (fun i wr => ∃ (k : Nat), k ≤ ps.length ∧ i = .int .i64 k ∧ canonB (ps.drop k) x = canonB ps x ∧ Below w.heap.size w wr) (fun i _ => ps.length - (intOf i).toNat)
    case atStart => exact ⟨0, by omega, rfl, rfl, Below.refl _ _⟩
    case round =>
      obtain ⟨k, hk, rfl, hacc, hbw⟩ := hrel
      have HA := Lib.hid hacc
      clear hacc
      by_cases hlt : k < ps.length
      · obtain ⟨hc, hc'⟩ := HC.out k hlt
        have hc := (hbw.cell (p := ⟨b, o + k * 2, none⟩) hbw0).trans hc
        have hc' := (hbw.cell (p := ⟨b, o + k * 2 + 1, none⟩) hbw0).trans hc'
        have HS := Lib.hid (canonB_drop ps x k hlt)
        have b1 : Below w.heap.size w (wr.alloc (.cells #[.string ps[k].1, .string ps[k].2] 46)) := hbw.alloc hbw.size _
        go_wp2
        · go_ret
          refine ⟨ret_str ?_, b1⟩
          rw [← HA.out, HS.out, if_pos (by assumption)]
        · refine ⟨⟨k + 1, by omega, by go_num, ?_, b1⟩, by simp [intOf]; omega⟩
          rw [← HA.out, HS.out, if_neg (by rw [‹(ps[k].1.toList == x.toList) = false›]; simp)]
      · go_wp2
        go_ret
        refine ⟨ret_str ?_, hbw⟩
        rw [← HA.out, List.drop_eq_nil_of_le (by omega)]
        rfl

set_option maxRecDepth 100000 in
set_option maxHeartbeats 2000000 in
theorem mapped_any (B : Nat) (v p : Value) (xs : List ByteArray) (ps : List (ByteArray × ByteArray)) (w : World) (h : IsTexts B w v xs) (hp : IsPairs B w p ps) (hB : B ≤ w.heap.size) (hl : xs.length ≤ 100000) :
    Calls Tryz.prog 36 #[v, p] w fun e w' => ∃ u, e = .returned u ∧ (IsTexts w'.heap.size w' u (xs.map (canonB ps)) ∧ Proper u) ∧ Below w.heap.size w w' := by
  obtain ⟨i0, hi0, hz0, hz1, hz2⟩ := info_parts strInfo
  obtain ⟨a, c, rfl, h1, h2, h3⟩ := h
  have HX := Lib.hid h3
  have HPS := Lib.hid hp
  obtain ⟨pa, pc, rfl, -, -, -⟩ := hp
  clear h3
  unfold maxLen at h2
  go_enter Tryz.func36, Tryz.ntmps36
  go_wp2
  go_loopw [5, 10] (fun v i wr => ∃ (k : Nat), k ≤ xs.length ∧ i = .int .i64 k ∧ wr.ownsRow w.heap.size 9 1 v k (((xs.take k).map (canonB ps)).map Value.string) ∧ Below w.heap.size w wr) (fun _ i _ => xs.length - (intOf i).toNat)
  case atStart => exact ⟨0, by omega, rfl, World.ownsRow_nil _ _ _ _, Below.refl _ _⟩
  case round =>
    obtain ⟨k, hk, rfl, hown, hbw⟩ := hrel
    have HW := Lib.hid hown
    clear hown
    have hwr := hbw.size
    by_cases hlt : k < xs.length
    · obtain ⟨b, o, rfl, hbB, hc⟩ := HX.out.resolve_left (by intro e; rw [e] at hlt; exact absurd hlt (Nat.not_lt_zero _))
      have hc := (hbw.cell (p := ⟨b, o + k, none⟩) (by show b < w.heap.size; omega)).trans (hc k _ (List.getElem?_eq_getElem hlt))
      obtain ⟨zs, hzs⟩ : ∃ zs, (xs.take k).map (canonB ps) = zs := ⟨_, rfl⟩
      have HT := Lib.hid (show (xs.take (k + 1)).map (canonB ps) = zs ++ [canonB ps xs[k]] by rw [← hzs, List.take_succ_eq_append_getElem hlt, List.map_append]; rfl)
      have HW := Lib.hid (show wr.ownsRow w.heap.size 9 1 _ k (zs.map Value.string) from hzs ▸ HW.out)
      clear hzs
      go_wp2_with fail
      refine (replaced_any B _ ps xs[k] wr (HPS.out.keep (hbw.mono hB)) (Nat.le_trans hB hwr)).mono ?_
      rintro e w1 ⟨rfl, b1⟩
      have bw1 := hbw.trans (b1.mono hwr)
      have hw1 := bw1.size
      have HW1 := Lib.hid (owns_below HW.out b1)
      generalize hcn : canonB ps xs[k] = C at *
      clear hcn
      go_wp2_with (at_builtin; refine wpList_append_own _ rfl _ _ 23 rfl w.heap.size 9 i0 (.string ⟨#[]⟩) 1 16 Tryz.underlying23 hi0 hz0 hz1 hz2 rfl (by decide) _ _ _ rfl (HW1.out.alloc _) ⟨w1.heap.size, 0, none⟩ 1 1 [.string C] rfl rfl ?c1 ?c2 ?c3 ?c4 ?c5 ?_)
      case c1 =>
        intro j u hj
        match j, hj with
        | 0, hj => simp at hj; subst hj; simp [Addr.add]
      case c2 => intro u hu; simp at hu; subst hu; rfl
      case c3 => unfold maxLen; omega
      case c4 => omega
      case c5 => simp; omega
      · intro v' w4 hown' hgrow _
        go_wp2
        refine ⟨⟨k + 1, by omega, by go_num, ?_, ?_⟩, by simp [intOf]; omega⟩
        · rw [HT.out, List.map_append]
          exact hown'
        · exact (bw1.alloc (by omega) _).grown hgrow (by simp; omega) (fun g hg => (HW1.out.lt g hg).1)
    · go_wp2
      go_ret
      have h := HW.out
      obtain rfl : k = xs.length := by omega
      rw [List.take_length] at h
      have hl' : xs.length = (xs.map (canonB ps)).length := (List.length_map _).symm
      rw [hl'] at h
      exact ⟨_, rfl, ⟨IsTexts.of_own h, proper_own h⟩, hbw⟩

theorem Trim_any (s : ByteArray) (w : World) (hm : s.size ≤ 1000000) :
    Calls Tryz.prog 61 #[.string s] w fun e w' => e = .returned (.string (trimB s)) ∧ w = w' := by
  have hT := Tryz.strings_TrimLeft_one s 48 (by decide) w
  have hd : Lib.trimLeftB s.data.toList 48 = s.data.toList.dropWhile (· == 48) := rfl
  rw [hd] at hT
  obtain ⟨r, hr⟩ : ∃ r : ByteArray, (⟨(s.data.toList.dropWhile (· == 48)).toArray⟩ : ByteArray) = r := ⟨_, rfl⟩
  have hrl : s.data.toList.dropWhile (· == 48) = r.data.toList := by rw [← hr]
  have hrs : r.size ≤ 1000000 := by
    have h1 := (List.dropWhile_sublist (l := s.data.toList) (· == (48 : UInt8))).length_le
    rw [hrl, sizeL, sizeL] at h1
    omega
  rw [hr] at hT
  have HT := Lib.hid hT
  have e1 : numB r = true → trimB s = r := fun h => by
    apply ba_ext
    unfold trimB TM.trimN
    rw [list_bs, hrl, if_pos (show TM.isnum r.data.toList = true from h)]
  have e2 : numB r = false → trimB s = ⟨#[48]⟩ ++ r := fun h => by
    apply ba_ext
    unfold trimB TM.trimN
    rw [list_bs, hrl, if_neg (show ¬ TM.isnum r.data.toList = true from fun e => by rw [show TM.isnum r.data.toList = false from h] at e; cases e), data_add]; rfl
  have E1 := Lib.hid e1
  have E2 := Lib.hid e2
  clear e1 e2 hT hr hrl hd
  go_enter Tryz.func61, Tryz.ntmps61
  go_wp2_with fail
  refine HT.out.mono ?_
  rintro e w' ⟨rfl, rfl⟩
  go_wp2_with fail
  refine (isNumber_any r _).mono ?_
  rintro e w' ⟨rfl, rfl⟩
  cases hn : numB r
  · have HE := Lib.hid (E2.out hn)
    clear hn
    go_wp2
    go_ret
    exact ⟨ret_str HE.out.symm, rfl⟩
  · have HE := Lib.hid (E1.out hn)
    clear hn
    go_wp2
    go_ret
    exact ⟨ret_str HE.out.symm, rfl⟩

set_option maxRecDepth 100000 in
set_option maxHeartbeats 2000000 in
theorem trimmed_any (B : Nat) (v : Value) (xs : List ByteArray) (w : World) (h : IsTexts B w v xs) (hB : B ≤ w.heap.size) (hl : xs.length ≤ 100000) (hz : ∀ x ∈ xs, x.size ≤ 1000000) :
    Calls Tryz.prog 37 #[v] w fun e w' => ∃ u, e = .returned u ∧ (IsTexts w'.heap.size w' u (xs.map trimB) ∧ Proper u) ∧ Below w.heap.size w w' := by
  obtain ⟨i0, hi0, hz0, hz1, hz2⟩ := info_parts strInfo
  obtain ⟨a, c, rfl, h1, h2, h3⟩ := h
  have HX := Lib.hid h3
  have HZ := Lib.hid hz
  clear h3 hz
  unfold maxLen at h2
  go_enter Tryz.func37, Tryz.ntmps37
  go_wp2
  go_loopw [3, 8] (fun v i wr => ∃ (k : Nat), k ≤ xs.length ∧ i = .int .i64 k ∧ wr.ownsRow w.heap.size 9 1 v k (((xs.take k).map trimB).map Value.string) ∧ Below w.heap.size w wr) (fun _ i _ => xs.length - (intOf i).toNat)
  case atStart => exact ⟨0, by omega, rfl, World.ownsRow_nil _ _ _ _, Below.refl _ _⟩
  case round =>
    obtain ⟨k, hk, rfl, hown, hbw⟩ := hrel
    have HW := Lib.hid hown
    clear hown
    have hwr := hbw.size
    by_cases hlt : k < xs.length
    · obtain ⟨b, o, rfl, hbB, hc⟩ := HX.out.resolve_left (by intro e; rw [e] at hlt; exact absurd hlt (Nat.not_lt_zero _))
      have hc := (hbw.cell (p := ⟨b, o + k, none⟩) (by show b < w.heap.size; omega)).trans (hc k _ (List.getElem?_eq_getElem hlt))
      obtain ⟨zs, hzs⟩ : ∃ zs, (xs.take k).map trimB = zs := ⟨_, rfl⟩
      have HT := Lib.hid (show (xs.take (k + 1)).map trimB = zs ++ [trimB xs[k]] by rw [← hzs, List.take_succ_eq_append_getElem hlt, List.map_append]; rfl)
      have HW := Lib.hid (show wr.ownsRow w.heap.size 9 1 _ k (zs.map Value.string) from hzs ▸ HW.out)
      clear hzs
      have hzk := HZ.out xs[k] (List.getElem_mem hlt)
      have hTr := Trim_any xs[k] wr hzk
      generalize hcn : trimB xs[k] = C at *
      have HTr := Lib.hid hTr
      clear hcn hTr
      go_wp2_with fail
      refine HTr.out.mono ?_
      rintro e w1 ⟨rfl, rfl⟩
      go_wp2_with (at_builtin; refine wpList_append_own _ rfl _ _ 23 rfl w.heap.size 9 i0 (.string ⟨#[]⟩) 1 16 Tryz.underlying23 hi0 hz0 hz1 hz2 rfl (by decide) _ _ _ rfl (HW.out.alloc _) ⟨wr.heap.size, 0, none⟩ 1 1 [.string C] rfl rfl ?c1 ?c2 ?c3 ?c4 ?c5 ?_)
      case c1 =>
        intro j u hj
        match j, hj with
        | 0, hj => simp at hj; subst hj; simp [Addr.add]
      case c2 => intro u hu; simp at hu; subst hu; rfl
      case c3 => unfold maxLen; omega
      case c4 => omega
      case c5 => simp; omega
      · intro v' w4 hown' hgrow _
        go_wp2
        refine ⟨⟨k + 1, by omega, by go_num, ?_, ?_⟩, by simp [intOf]; omega⟩
        · rw [HT.out, List.map_append]
          exact hown'
        · exact (hbw.alloc (by omega) _).grown hgrow (by simp; omega) (fun g hg => (HW.out.lt g hg).1)
    · go_wp2
      go_ret
      have h := HW.out
      obtain rfl : k = xs.length := by omega
      rw [List.take_length] at h
      have hl' : xs.length = (xs.map trimB).length := (List.length_map _).symm
      rw [hl'] at h
      exact ⟨_, rfl, ⟨IsTexts.of_own h, proper_own h⟩, hbw⟩

end Go.Proofs.YthplnfblpdojkaaGreatDoor
