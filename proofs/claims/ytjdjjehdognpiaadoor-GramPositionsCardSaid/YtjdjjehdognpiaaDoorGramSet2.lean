/- The walks of ascending, Set, common, Common, rounded, Dice. -/
import Derived.Test.YtjdjjehdognpiaaDoorGramSet
namespace Go.Proofs.YtjdjjehdognpiaaDoor
open Go.RowKit Go.Maps Go.Sort Go.Shelf Go.WideMaps
set_option maxRecDepth 100000

set_option maxHeartbeats 1000000 in
theorem ascending_any (b : Nat) (ls : List (List UInt8)) (w : World) (h : IsSet w b ls) (hl : ls.length ≤ 1000000) :
    Calls Tryd.prog 40 #[.map (some b)] w fun e w' => ∃ v, e = .returned v ∧ OwnsL w.heap.size w' v (GM.setL ls) ∧ Below w.heap.size w w' := by
  have hk := h.keys
  have hle : Maps.size (Sd ls) ≤ ls.length := World.ownsMap.size_le h
  have hsz := h.size
  refine (callsIn_wide (n := 6)).1 ?_
  have cS := Tryd.slices_Sorted_keys_43_44 b ls.length (Sd ls) unitElem w h (by unfold maxLen; omega) (by omega)
  have hfK : Fence.wide.fn 44 := trivial
  have hfS : Fence.wide.fn 43 := trivial
  refine callsIn_of_wp Tryd.func40 rfl trivial ?_ rfl
  simp only [Tryd.ntmps40, List.size_toArray, List.length_cons, List.length_nil, Nat.reduceAdd, Nat.reduceSub, Array.replicate_succ, Array.replicate_zero, List.push_toArray, List.append_toArray, List.nil_append, List.cons_append]
  gi_wp2_with (first
    | (gi_at_call 44; refine (Tryd.maps_Keys_44 _ _).mono ?_; rintro e w' ⟨rfl, rfl⟩)
    | (gi_at_call 43; refine cS.mono ?_; rintro e w' ⟨v, ss, rfl, hS, hrow, hnil, hb⟩))
  go_ret
  refine ⟨v, rfl, ?_, ((Below.refl _ w).alloc (Nat.le_refl _) _).trans (hb.mono (by simp))⟩
  have hp : ss.Perm (GM.setL ls) := hS.trans hk.symm
  rw [GM.sort_setL hp, hp.length_eq] at hrow
  exact ownsRow_base_a hrow (by simp)

theorem fit_texts {xs : List ByteArray} (hz : ∀ x ∈ xs, x.size ≤ 1048576) : ∀ z ∈ xs.map (·.data.toList), z.length ≤ 1048576 := by
  intro z h
  obtain ⟨x, hx, rfl⟩ := List.mem_map.1 h
  simpa using hz x hx

set_option maxHeartbeats 1000000 in
theorem Set_any (B : Nat) (v : Value) (xs : List ByteArray) (w : World) (h : IsTexts B w v xs) (hB : B ≤ w.heap.size) (hl : xs.length ≤ 1000000) (hz : ∀ x ∈ xs, x.size ≤ 1048576) :
    Calls Tryd.prog 24 #[v] w fun e w' => ∃ u, e = .returned u ∧ OwnsL w.heap.size w' u (GM.setL (xs.map (·.data.toList))) ∧ Below w.heap.size w w' := by
  have HS := Lib.hid (setOf_any B v xs w h hB hl hz)
  clear h hz
  obtain ⟨ls, hls⟩ : ∃ ls, ls = xs.map (·.data.toList) := ⟨_, rfl⟩
  have hl' : ls.length ≤ 1000000 := by rw [hls, List.length_map]; exact hl
  rw [← hls] at HS ⊢
  clear hls
  go_enter Tryd.func24, Tryd.ntmps24
  go_wp2_with fail
  refine HS.out.mono ?_
  rintro e w1 ⟨rfl, h1, b1⟩
  go_wp2_with fail
  refine (ascending_any _ ls w1 h1 hl').mono ?_
  rintro e w2 ⟨u, rfl, h2, b2⟩
  go_wp2
  go_ret
  exact ⟨_, rfl, ownsRow_base_a h2 b1.size, b1.trans (b2.mono b1.size)⟩

theorem cnt_snoc (ss l2 : List (List UInt8)) (x : List UInt8) : GM.cnt (ss ++ [x]) l2 = GM.cnt ss l2 + if decide (x ∈ l2) then 1 else 0 := by
  unfold GM.cnt
  rw [List.filter_append, List.length_append, List.filter_cons]
  split <;> simp

set_option maxHeartbeats 2000000 in
theorem common_any (b1 b2 : Nat) (l1 l2 : List (List UInt8)) (w : World) (h1 : IsSet w b1 l1) (h2 : IsSet w b2 l2) (hl : l1.length ≤ 1000000) :
    Calls Tryd.prog 37 #[.map (some b1), .map (some b2)] w fun e w' => e = .returned (.int .i64 (GM.commonN l1 l2)) ∧ Below w.heap.size w w' := by
  have hlt1 := h1.lt
  have hlt2 := h2.lt
  have hle : Maps.size (Sd l1) ≤ l1.length := World.ownsMap.size_le h1
  have HK := Lib.hid h1.keys
  have HO1 := Lib.hid h1
  have HO2 := Lib.hid h2
  clear h1 h2
  have HC0 := Lib.hid (Collected.start (Sd l1))
  go_enter Tryd.func37, Tryd.ntmps37
  go_wp2_with (first | (at_range; refine wpList_range_own _ rfl _ 51 rfl 9 58 mapLaw Tryd.underlying51 (unitElem (H := Unit)) b1 l1.length (Sd l1) rfl HO1.out ?_; intro w0 hrg0 hg0 hs0) | go_in)
  go_frame
  have HB0 := Lib.hid (show Below w.heap.size w w0 from (Below.refl _ w).grown hg0 (Nat.le_refl _) (fun j hj => by cases hj))
  have HRG0 := Lib.hid hrg0
  clear hrg0 hg0
  go_loopw [5] (fun c wr => ∃ (left : Lit → Bool) (n : Nat) (ss : List (List UInt8)), c = .int .i64 (GM.cnt ss l2) ∧ ss.length + n ≤ Maps.size (Sd l1) ∧ Collected (Sd l1) left ss ∧
      wr.ranges Tryd.prog 9 (unitElem (H := Unit)) b1 w.heap.size l1.length (Sd l1) left n ∧ Below w.heap.size w wr) (fun _ wr => wr.rangeLeft b1 w.heap.size)
  case atStart => exact ⟨_, _, [], rfl, by simp, HC0.out, HRG0.out, HB0.out⟩
  case round =>
    obtain ⟨left, n, ss, rfl, hn, hC, hrg, hbw⟩ := hrel
    have HC := Lib.hid hC
    clear hC
    have hO2 := HO2.out.below hbw hlt2
    have HR := Lib.hid hrg
    have HBW := Lib.hid hbw
    have hcl : GM.cnt ss l2 ≤ ss.length := GM.cnt_le _ _
    go_wp2_with (first
      | (at_next; refine wpList_next_ranges _ rfl _ rfl 9 mapLaw (unitElem (H := Unit)) encStr (fun _ : Unit => Value.agg #[]) (fun key kl hk => by obtain ⟨x, hx, _⟩ := Maps.keyOf_str Tryd.underlying9 hk; exact ⟨x, hx⟩) (fun v y hv => by obtain ⟨rfl, _⟩ := unitElem_inv hv; exact ⟨(), rfl⟩) b1 w.heap.size l1.length _ left n rfl HR.out ?_ ?_)
      | go_in)
    · intro hc0 hl0
      have hp : ss.Perm (GM.setL l1) := (HC.out.perm HO1.out mapLaw Tryd.underlying9 hl0).trans HK.out.symm
      have hN : GM.cnt ss l2 = GM.commonN l1 l2 := by
        unfold GM.cnt GM.commonN GM.cnt
        rw [(hp.filter _).length_eq]
        simp only [GM.mem_setL]
      have HN := Lib.hid hN
      clear hN
      go_wp2
      go_ret
      exact ⟨congrArg (fun n : Nat => Ending.returned (.int .i64 n)) HN.out, hbw⟩
    · intro x c kl y w1 cnt1 hkey hlk hv hat hrg1 hlt hg1 hs1 hen
      obtain ⟨x', ex, rfl, hxl⟩ := Maps.keyOf_str Tryd.underlying9 hkey
      obtain rfl : x = x' := encStr_inj ex
      have HC1 := Lib.hid (HC.out.step hlk hat)
      have hb1 : Below w.heap.size w w1 := hbw.grown hg1 hbw.size (fun j hj => by cases hj; exact Nat.le_refl _)
      have HB1 := Lib.hid hb1
      have HO3 := Lib.hid (HO2.out.below hb1 hlt2)
      have HRG1 := Lib.hid hrg1
      have HM := Lib.hid (show w1.rangeLeft b1 w.heap.size < wr.rangeLeft b1 w.heap.size by rw [hrg1.left_eq, HR.out.left_eq]; exact hlt)
      have HCn := Lib.hid (cnt_snoc ss l2 x)
      have HH := Lib.hid (has_Sd l2 x)
      have hkey2 : keyOf Tryd.prog 9 (encStr x) = some (.string x) := hkey
      clear hs1 hrg1 hb1 hg1 hat hlk hO2 ex hrg hbw
      go_wp2_with (first
        | (at_lookup; refine wpList_lookup_own_unit _ rfl _ _ 51 rfl 9 58 mapLaw Tryd.underlying51 (zeroUnit _) b2 l2.length _ rfl HO3.out _ _ rfl hkey2 ?_)
        | go_in)
      · have hx : decide (x ∈ l2) = true := by rw [← HH.out]; assumption
        refine ⟨⟨_, cnt1, ss ++ [x], ?_, by simp; omega, HC1.out, HRG1.out.alloc _, HB1.out.alloc (Nat.le_of_lt_succ (by have := HB1.out.size; omega)) _⟩, ?_⟩
        · rw [HCn.out, hx, if_pos rfl]
          rfl
        · have := (HRG1.out.alloc (.cells #[] 58)).left_eq
          rw [this, ← HRG1.out.left_eq]
          exact HM.out
      · have hx : decide (x ∈ l2) = false := by rw [← HH.out]; assumption
        refine ⟨⟨_, cnt1, ss ++ [x], ?_, by simp; omega, HC1.out, HRG1.out.alloc _, HB1.out.alloc (Nat.le_of_lt_succ (by have := HB1.out.size; omega)) _⟩, ?_⟩
        · rw [HCn.out, hx, if_neg (by simp)]
          rfl
        · have := (HRG1.out.alloc (.cells #[] 58)).left_eq
          rw [this, ← HRG1.out.left_eq]
          exact HM.out

set_option maxHeartbeats 1000000 in
theorem Common_any (B B' : Nat) (v u : Value) (xs ys : List ByteArray) (w : World) (h : IsTexts B w v xs) (h' : IsTexts B' w u ys) (hB : B ≤ w.heap.size) (hB' : B' ≤ w.heap.size) (hl : xs.length ≤ 1000000) (hl' : ys.length ≤ 1000000)
    (hz : ∀ x ∈ xs, x.size ≤ 1048576) (hz' : ∀ x ∈ ys, x.size ≤ 1048576) :
    Calls Tryd.prog 20 #[v, u] w fun e w' => e = .returned (.int .i64 (GM.commonN (xs.map (·.data.toList)) (ys.map (·.data.toList)))) ∧ Below w.heap.size w w' := by
  have HS := Lib.hid (setOf_any B v xs w h hB hl hz)
  have HZ' := Lib.hid hz'
  have HT' := Lib.hid h'
  have HL := Lib.hid (show (xs.map (·.data.toList)).length ≤ 1000000 by rw [List.length_map]; exact hl)
  clear h hz h' hz'
  go_enter Tryd.func20, Tryd.ntmps20
  go_wp2_with fail
  refine HS.out.mono ?_
  rintro e w1 ⟨rfl, h1, b1⟩
  have HI1 := Lib.hid h1
  clear h1
  go_wp2_with fail
  refine (setOf_any B' u ys w1 (HT'.out.keep (b1.mono hB')) (Nat.le_trans hB' b1.size) hl' HZ'.out).mono ?_
  rintro e w2 ⟨rfl, h2, b2⟩
  have HI2 := Lib.hid (HI1.out.below b2 HI1.out.lt)
  go_wp2_with fail
  refine (common_any _ _ _ _ w2 HI2.out h2 HL.out).mono ?_
  rintro e w3 ⟨rfl, b3⟩
  go_wp2
  go_ret
  exact ⟨rfl, b1.trans ((b2.trans (b3.mono b2.size)).mono b1.size)⟩

theorem round_cast (n d : Nat) : ((2 * (n : Int) + (d : Int)) / (2 * (d : Int))) = (((2 * n + d) / (2 * d) : Nat) : Int) := by push_cast; rfl
theorem rounded_any (n d : Nat) (w : World) (hn : n ≤ 1000000000000) (hd : 1 ≤ d) (hd' : d ≤ 1000000000000) :
    Calls Tryd.prog 38 #[.int .i64 n, .int .i64 d] w fun e w' => e = .returned (.int .i64 ((2 * n + d) / (2 * d) : Nat)) ∧ w = w' := by
  go_enter Tryd.func38, Tryd.ntmps38
  go_wp2
  go_ret
  exact ⟨congrArg (fun x : Int => Ending.returned (.int .i64 x)) (round_cast n d), rfl⟩

theorem rounded_at (n d : Int) (N D : Nat) (e1 : n = N) (e2 : d = D) (w : World) (hn : N ≤ 1000000000000) (hd : 1 ≤ D) (hd' : D ≤ 1000000000000) :
    Calls Tryd.prog 38 #[.int .i64 n, .int .i64 d] w fun e w' => e = .returned (.int .i64 ((2 * N + D) / (2 * D) : Nat)) ∧ w = w' := by
  subst e1 e2
  exact rounded_any N D w hn hd hd'
theorem dice_of {a b : List (List UInt8)} (h : ¬ (GM.setL a).length + (GM.setL b).length = 0) : GM.diceN a b = (2 * (2000 * GM.commonN a b) + ((GM.setL a).length + (GM.setL b).length)) / (2 * ((GM.setL a).length + (GM.setL b).length)) := by
  unfold GM.diceN
  rw [if_neg h]
theorem dice_none {a b : List (List UInt8)} (h : (GM.setL a).length + (GM.setL b).length = 0) : GM.diceN a b = 0 := by
  unfold GM.diceN
  rw [if_pos h]

set_option maxHeartbeats 2000000 in
theorem Dice_any (B B' : Nat) (v u : Value) (xs ys : List ByteArray) (w : World) (h : IsTexts B w v xs) (h' : IsTexts B' w u ys) (hB : B ≤ w.heap.size) (hB' : B' ≤ w.heap.size) (hl : xs.length ≤ 1000000) (hl' : ys.length ≤ 1000000)
    (hz : ∀ x ∈ xs, x.size ≤ 1048576) (hz' : ∀ x ∈ ys, x.size ≤ 1048576) :
    Calls Tryd.prog 22 #[v, u] w fun e w' => e = .returned (.int .i64 (GM.diceN (xs.map (·.data.toList)) (ys.map (·.data.toList)))) ∧ Below w.heap.size w w' := by
  have HS := Lib.hid (setOf_any B v xs w h hB hl hz)
  have HS' := Lib.hid (fun (W : World) (hW : Below w.heap.size w W) => setOf_any B' u ys W (h'.keep (hW.mono hB')) (Nat.le_trans hB' hW.size) hl' hz')
  clear h hz h' hz'
  obtain ⟨l1, hl1⟩ : ∃ l, l = xs.map (·.data.toList) := ⟨_, rfl⟩
  obtain ⟨l2, hl2⟩ : ∃ l, l = ys.map (·.data.toList) := ⟨_, rfl⟩
  have hL1 : l1.length ≤ 1000000 := by rw [hl1, List.length_map]; exact hl
  have hL2 : l2.length ≤ 1000000 := by rw [hl2, List.length_map]; exact hl'
  rw [← hl1] at HS ⊢
  rw [← hl2] at HS' ⊢
  clear hl1 hl2 hl hl'
  have hs1 := GM.length_setL l1
  have hs2 := GM.length_setL l2
  have hc := GM.common_le l1 l2
  have HD1 := Lib.hid (dice_of (a := l1) (b := l2))
  have HD2 := Lib.hid (dice_none (a := l1) (b := l2))
  go_enter Tryd.func22, Tryd.ntmps22
  go_wp2_with fail
  refine HS.out.mono ?_
  rintro e w1 ⟨rfl, h1, b1⟩
  have HI1 := Lib.hid h1
  clear h1
  go_wp2_with fail
  refine (HS'.out w1 b1).mono ?_
  rintro e w2 ⟨rfl, h2, b2⟩
  have HI2 := Lib.hid h2
  have HI1' := Lib.hid (HI1.out.below b2 HI1.out.lt)
  clear h2 HI1
  have HC := Lib.hid (common_any _ _ _ _ w2 HI1'.out HI2.out hL1)
  have e1 := HI1'.out.size
  have e2 := HI2.out.size
  have HE1 := Lib.hid e1
  have HE2 := Lib.hid e2
  clear e1 e2
  have HPQ := Lib.hid b1.size
  generalize hp : w.heap.size = p at *
  generalize hq : w1.heap.size = q at *
  have HPE := Lib.hid hp
  have HQE := Lib.hid hq
  clear hp hq
  obtain ⟨x, hx⟩ : ∃ x, x = (GM.setL l1).length := ⟨_, rfl⟩
  obtain ⟨y, hy⟩ : ∃ y, y = (GM.setL l2).length := ⟨_, rfl⟩
  obtain ⟨m, hm⟩ : ∃ m, m = GM.commonN l1 l2 := ⟨_, rfl⟩
  rw [← hx] at HE1 HD1 HD2 hs1 hc
  rw [← hy] at HE2 HD1 HD2 hs2
  rw [← hm] at HC HD1 hc
  clear hx hy hm
  by_cases h0 : x + y = 0
  · have hx0 : x = 0 := by omega
    have hy0 : y = 0 := by omega
    subst hx0 hy0
    go_wp2_with (first
      | (at_len; refine wpList_len_own _ rfl _ 51 rfl 9 58 Tryd.underlying51 _ p l1.length _ rfl HI1'.out ?_; rw [HE1.out])
      | (at_len; refine wpList_len_own _ rfl _ 51 rfl 9 58 Tryd.underlying51 _ q l2.length _ rfl HI2.out ?_; rw [HE2.out])
      | go_in)
    go_ret
    exact ⟨congrArg (fun n : Nat => Ending.returned (.int .i64 n)) (HD2.out (by first | rfl | trivial)).symm, by rw [HPE.out]; exact b1.trans (b2.mono HPQ.out)⟩
  · have hb : ¬ ((x : Int) + (y : Int) = 0) := by omega
    have hbb : ((x : Int) + (y : Int) == 0) = false := by simp; omega
    go_wp2_with (first
      | (at_len; refine wpList_len_own _ rfl _ 51 rfl 9 58 Tryd.underlying51 _ p l1.length _ rfl HI1'.out ?_; rw [HE1.out])
      | (at_len; refine wpList_len_own _ rfl _ 51 rfl 9 58 Tryd.underlying51 _ q l2.length _ rfl HI2.out ?_; rw [HE2.out])
      | (go_at_call 37; refine HC.out.mono ?_; rintro e w3 ⟨rfl, b3⟩))
    have hw2 : q ≤ w2.heap.size := by have := b2.size; rw [HQE.out] at this; exact this
    have hpq := HPQ.out
    refine (rounded_at _ _ (2000 * m) (x + y) (by push_cast; rfl) (by push_cast; rfl) w3 (by omega) (by omega) (by omega)).mono ?_
    rintro e w4 ⟨rfl, rfl⟩
    go_wp2
    go_ret
    exact ⟨congrArg (fun n : Nat => Ending.returned (.int .i64 n)) (HD1.out h0).symm, by rw [HPE.out]; exact b1.trans ((b2.trans (b3.mono hw2)).mono hpq)⟩
end Go.Proofs.YtjdjjehdognpiaaDoor
