/- Walks of the reference's Soundex and Skeleton. -/
import Derived.Test.YtblkebjfnboclaaDoorPhonSkel
import Derived.BigQuiet
namespace Go.Proofs.YtblkebjfnboclaaDoor
open Go.RowKit
set_option maxRecDepth 100000

theorem pad_more (a : List UInt8) (h : 1 ≤ a.length) : (a ++ [48] ++ [48, 48, 48]).take 4 = (a ++ [48, 48, 48]).take 4 := by
  have e : a ++ [48] ++ [48, 48, 48] = (a ++ [48, 48, 48]) ++ [48] := by simp
  rw [e, List.take_append_of_le_length (by simp; omega)]
theorem pad_done (a : List UInt8) (h : a.length = 4) (b : List UInt8) : (a ++ b).take 4 = a := by
  rw [List.take_append_of_le_length (by omega), List.take_of_length_le (by omega)]
theorem ofNat_dig (c : UInt8) : ((UInt8.ofNat (PM.dig c)).toNat : Int) = (PM.dig c : Int) := by
  have := PM.dig_vals c
  rw [UInt8.toNat_ofNat']
  omega

set_option maxHeartbeats 4000000 in
theorem rSoundex_any (s : ByteArray) (w : World) :
    Calls Tryd.prog 16 #[.string s] w fun e w' => e = .returned (.string (sxB s)) ∧ Below w.heap.size w w' := by
  go_enter Tryd.func16, Tryd.ntmps16
  go_wp2_with fail
  refine (rletters_any s w).mono ?_
  rintro e w1 ⟨rfl, rfl⟩
  cases hT : ptokB s
  · have E := Lib.hid (sxB_no hT)
    clear hT
    go_wp2
    go_ret
    exact ⟨ret_str E.out.symm, Below.refl _ _⟩
  · obtain ⟨hp, h64⟩ := ptok_pos hT
    have E := Lib.hid (sxB_yes hT hp)
    clear hT
    have hx0 := extract_one s 0 hp
    have HX0 := Lib.hid (show s.extract 0 1 = ⟨#[s[0]]⟩ from hx0)
    clear hx0
    have hx0 := HX0.out
    go_wp2_with fail
    refine (rdigit_any s[0] _).mono ?_
    rintro e w2 ⟨rfl, b2⟩
    have HF := Lib.hid (show fullC s hp = s[0] :: PM.run (PM.dig s[0]) (s.data.toList.drop 1) from rfl)
    go_wp2
    go_loopw [3, 4, 5] (fun o la i wr => ∃ (k : Nat) (so : ByteArray) (c : UInt8), 1 ≤ k ∧ k ≤ s.size ∧ i = .int .i64 k ∧ la = .int .u8 (PM.dig c) ∧ o = .string so ∧ 1 ≤ so.size ∧ so.size ≤ 4 ∧
        so.data.toList ++ PM.run (PM.dig c) (s.data.toList.drop k) = fullC s hp ∧ Below w.heap.size w wr) (fun _ _ i _ => s.size - (intOf i).toNat)
    case atStart => exact ⟨1, ⟨#[s[0]]⟩, s[0], by omega, by omega, rfl, rfl, rfl, Nat.le_refl _, by show 1 ≤ 4; omega, HF.out.symm, b2⟩
    case round =>
      obtain ⟨k, so, c, hk1, hk, rfl, rfl, rfl, hz1, hz4, hacc, hbw⟩ := hrel
      have HA := Lib.hid hacc
      clear hacc
      by_cases hgo : k < s.size ∧ so.size < 4
      · obtain ⟨hlt, h4⟩ := hgo
        have HR := Lib.hid (run_at s k (PM.dig c) hlt)
        have hsz := hbw.size
        by_cases c1 : PM.dig s[k] = 1
        · have HN := Lib.hid (show so.data.toList ++ PM.run (PM.dig c) (s.data.toList.drop (k + 1)) = fullC s hp by rw [← HA.out, HR.out, if_pos c1])
          have t1 : ((PM.dig s[k] : Int) == 1) = true := by simp; omega
          clear c1
          go_wp2_with (go_at_call 31; refine (rdigit_any s[k] _).mono ?_; rintro e w3 ⟨rfl, b3⟩)
          exact ⟨⟨k + 1, so, c, by omega, by omega, by go_num, rfl, rfl, hz1, hz4, HN.out, hbw.trans (b3.mono hsz)⟩, by simp [intOf]; omega⟩
        · have t1 : ((PM.dig s[k] : Int) == 1) = false := by simp; omega
          by_cases c2 : PM.dig s[k] = PM.dig c
          · have HN := Lib.hid (show so.data.toList ++ PM.run (PM.dig s[k]) (s.data.toList.drop (k + 1)) = fullC s hp by rw [← HA.out, HR.out, if_neg c1, if_pos c2, c2])
            have t2 : ((PM.dig s[k] : Int) != (PM.dig c : Int)) = false := by rw [c2]; simp
            clear c1 c2
            go_wp2_with (go_at_call 31; refine (rdigit_any s[k] _).mono ?_; rintro e w3 ⟨rfl, b3⟩)
            all_goals exact ⟨⟨k + 1, so, s[k], by omega, by omega, by go_num, rfl, rfl, hz1, hz4, HN.out, hbw.trans (b3.mono hsz)⟩, by simp [intOf]; omega⟩
          · have t2 : ((PM.dig s[k] : Int) != (PM.dig c : Int)) = true := by simp; omega
            by_cases c3 : 1 < PM.dig s[k]
            · have HN := Lib.hid (show (so ++ ⟨#[UInt8.ofNat (PM.dig s[k])]⟩ : ByteArray).data.toList ++ PM.run (PM.dig s[k]) (s.data.toList.drop (k + 1)) = fullC s hp by
                rw [← HA.out, HR.out, if_neg c1, if_neg c2, if_pos c3, data_add]; simp)
              have t3 : 1 < (PM.dig s[k] : Int) := by omega
              have k1 : ∀ W : World, _ := fun W => conv1 W (UInt8.ofNat (PM.dig s[k])) (PM.dig s[k] : Int) (ofNat_dig s[k]).symm
              clear c1 c2 c3
              go_wp2_with (go_at_call 31; refine (rdigit_any s[k] _).mono ?_; rintro e w3 ⟨rfl, b3⟩)
              have hs3 := b3.size
              exact ⟨⟨k + 1, _, s[k], by omega, by omega, by go_num, rfl, rfl, by rw [size_add]; omega, by rw [size_add]; show so.size + 1 ≤ 4; omega, HN.out, (hbw.trans (b3.mono hsz)).alloc (by omega) _⟩, by simp [intOf]; omega⟩
            · have HN := Lib.hid (show so.data.toList ++ PM.run (PM.dig s[k]) (s.data.toList.drop (k + 1)) = fullC s hp by rw [← HA.out, HR.out, if_neg c1, if_neg c2, if_neg c3])
              have t3 : ¬ 1 < (PM.dig s[k] : Int) := by omega
              clear c1 c2 c3
              go_wp2_with (go_at_call 31; refine (rdigit_any s[k] _).mono ?_; rintro e w3 ⟨rfl, b3⟩)
              exact ⟨⟨k + 1, so, s[k], by omega, by omega, by go_num, rfl, rfl, hz1, hz4, HN.out, hbw.trans (b3.mono hsz)⟩, by simp [intOf]; omega⟩
      · have hfin : (so.data.toList ++ [48, 48, 48]).take 4 = (fullC s hp ++ [48, 48, 48]).take 4 := by
          by_cases hlt : k < s.size
          · have h4 : so.data.toList.length = 4 := by
              have : so.data.toList.length = so.size := by simp
              omega
            rw [← HA.out, pad_done _ h4, List.append_assoc, pad_done _ h4]
          · rw [← HA.out, drop_end s k (by omega), PM.run, List.append_nil]
        have HFin := Lib.hid hfin
        clear hfin
        by_cases hlt : k < s.size
        · have h4 : ¬ so.size < 4 := fun h => hgo ⟨hlt, h⟩
          clear hgo
          go_wp2
          go_loop [3] (fun o => ∃ so2 : ByteArray, o = .string so2 ∧ 1 ≤ so2.size ∧ so2.size ≤ 4 ∧ (so2.data.toList ++ [48, 48, 48]).take 4 = (fullC s hp ++ [48, 48, 48]).take 4) (fun o => match o with | .string b => 4 - b.size | _ => 0)
          case atStart => exact ⟨so, rfl, hz1, hz4, HFin.out⟩
          case round =>
            obtain ⟨so2, rfl, hy1, hy4, hacc2⟩ := hrel
            have HA2 := Lib.hid hacc2
            clear hacc2
            by_cases h4' : so2.size < 4
            · go_wp2
              refine ⟨⟨_, rfl, by rw [size_add]; omega, by rw [size_add]; show so2.size + 1 ≤ 4; omega, ?_⟩, ?_⟩
              · rw [← HA2.out, data_add]
                exact pad_more _ (by have : so2.data.toList.length = so2.size := by simp
                                     omega)
              · show 4 - (so2 ++ ⟨#[48]⟩ : ByteArray).size < 4 - so2.size
                rw [size_add]; show 4 - (so2.size + 1) < _; omega
            · go_wp2
              go_ret
              refine ⟨ret_str ?_, hbw⟩
              rw [E.out, ← HA2.out, pad_done _ (by have : so2.data.toList.length = so2.size := by simp
                                                   omega), bs_list]
        · clear hgo
          go_wp2
          go_loop [3] (fun o => ∃ so2 : ByteArray, o = .string so2 ∧ 1 ≤ so2.size ∧ so2.size ≤ 4 ∧ (so2.data.toList ++ [48, 48, 48]).take 4 = (fullC s hp ++ [48, 48, 48]).take 4) (fun o => match o with | .string b => 4 - b.size | _ => 0)
          case atStart => exact ⟨so, rfl, hz1, hz4, HFin.out⟩
          case round =>
            obtain ⟨so2, rfl, hy1, hy4, hacc2⟩ := hrel
            have HA2 := Lib.hid hacc2
            clear hacc2
            by_cases h4' : so2.size < 4
            · go_wp2
              refine ⟨⟨_, rfl, by rw [size_add]; omega, by rw [size_add]; show so2.size + 1 ≤ 4; omega, ?_⟩, ?_⟩
              · rw [← HA2.out, data_add]
                exact pad_more _ (by have : so2.data.toList.length = so2.size := by simp
                                     omega)
              · show 4 - (so2 ++ ⟨#[48]⟩ : ByteArray).size < 4 - so2.size
                rw [size_add]; show 4 - (so2.size + 1) < _; omega
            · go_wp2
              go_ret
              refine ⟨ret_str ?_, hbw⟩
              rw [E.out, ← HA2.out, pad_done _ (by have : so2.data.toList.length = so2.size := by simp
                                                   omega), bs_list]

/-- The worlds that grew from w. -/
def Grown (w : World) : Type := {W : World // Below w.heap.size w W}
instance grown_some (w : World) : Nonempty (Grown w) := ⟨⟨w, Below.refl _ w⟩⟩
/-- A region that draws its order and whose calls add blocks only: one walk, in the order of the text, in any world that grew from the first. -/
theorem wp_region_below {P : Program} {id : Nat} {Q : Exit → Act → World → Prop} {a : Act} {w : World} {l : List Oper} (hm : P.follows .mixedOrders = true) (hB : Region.lexB .any l.toArray = true)
    (h : wpQuiet P l.toArray (fun W => ∃ x : Grown w, W = x.val) (fun a' => ∀ w', (∃ x : Grown w, w' = x.val) → Q .normal a' w') l a) : (Code.region id l.toArray true).wp P Q a w :=
  wp_region_quiet (C := fun W => ∃ x : Grown w, W = x.val) hm hB ⟨⟨_, below_drewN (Below.refl _ w) 1⟩, rfl⟩ (by simpa using h)
theorem grown_out {w w' : World} (h : ∃ x : Grown w, w' = x.val) : Below w.heap.size w w' := by
  obtain ⟨x, rfl⟩ := h
  exact x.property
theorem grown_call {w : World} {x : Grown w} {P : Program} {f : FuncId} {args : Array Value} {v : Value} (h : Calls P f args x.val fun e w'' => e = .returned v ∧ Below x.val.heap.size x.val w'') :
    Calls P f args x.val fun e w'' => e = .returned v ∧ ∃ y : Grown w, w'' = y.val :=
  h.mono fun _ w'' ⟨he, hb⟩ => ⟨he, ⟨w'', x.property.trans (hb.mono x.property.size)⟩, rfl⟩
theorem rdigit_is (c : UInt8) (x : Int) (h : (PM.dig c : Int) = x) (w : World) :
    Calls Tryd.prog 31 #[.int .u8 c.toNat] w fun e w' => e = .returned (.int .u8 x) ∧ Below w.heap.size w w' := by
  subst h
  exact rdigit_any c w
set_option maxHeartbeats 4000000 in
theorem rSkeleton_any (s : ByteArray) (w : World) :
    Calls Tryd.prog 18 #[.string s] w fun e w' => e = .returned (.string (skB s)) ∧ Below w.heap.size w w' := by
  go_enter Tryd.func18, Tryd.ntmps18
  go_wp2_with fail
  refine (rletters_any s w).mono ?_
  rintro e w1 ⟨rfl, rfl⟩
  cases hT : ptokB s
  · have E := Lib.hid (skB_no hT)
    clear hT
    go_wp2
    go_ret
    exact ⟨ret_str E.out.symm, Below.refl _ _⟩
  · obtain ⟨hp, h64⟩ := ptok_pos hT
    have E := Lib.hid (skB_yes hT hp)
    clear hT
    have hx0 : s.extract 0 1 = ⟨#[s[0]]⟩ := extract_one s 0 hp
    have HF := Lib.hid (show fullS s hp = s[0] :: PM.bones s[0] (s.data.toList.drop 1) from rfl)
    go_wp2
    go_loopw [3, 4] (fun o i wr => ∃ (k : Nat) (so : ByteArray) (acc : List UInt8) (p : UInt8), 1 ≤ k ∧ k ≤ s.size ∧ i = .int .i64 k ∧ o = .string so ∧ so.data.toList = acc ++ [p] ∧ 1 ≤ so.size ∧ so.size ≤ 6 ∧ so.size ≤ k ∧
        so.data.toList ++ PM.bones p (s.data.toList.drop k) = fullS s hp ∧ Below w.heap.size w wr) (fun _ i _ => s.size - (intOf i).toNat)
    case atStart => exact ⟨1, ⟨#[s[0]]⟩, [], s[0], by omega, by omega, rfl, rfl, rfl, Nat.le_refl _, by show 1 ≤ 6; omega, Nat.le_refl _, HF.out.symm, Below.refl _ _⟩
    case round =>
      obtain ⟨k, so, acc, p, hk1, hk, rfl, rfl, hso, hz1, hz6, hzk, hacc, hbw⟩ := hrel
      have HA := Lib.hid hacc
      have hlp : so[so.size - 1] = p := by
        have e : so.data.toList[so.size - 1]? = some p := by
          have hl : acc.length + 1 = so.size := by
            have := congrArg List.length hso
            simp at this
            omega
          rw [hso, show so.size - 1 = acc.length by omega]
          simp
        have e2 : so.data.toList[so.size - 1]? = some so[so.size - 1] := by
          rw [List.getElem?_eq_getElem (by simp; omega)]
          rfl
        rw [e] at e2
        exact (Option.some.inj e2).symm
      have HS := Lib.hid hso
      clear hacc hso
      have hsz := hbw.size
      by_cases hlt : k < s.size
      · by_cases h6 : so.size < 6
        · by_cases c : 1 < PM.dig s[k] ∧ s[k] ≠ p
          · have hwr : IntKind.i64.wrap ((so.size : Int) - 1) = ((so.size - 1 : Nat) : Int) := by rw [wrap_num _ (by omega) (by omega)]; omega
            have HX := Lib.hid (show (so ++ s.extract k (k + 1)).data.toList ++ PM.bones s[k] (s.data.toList.drop (k + 1)) = fullS s hp by
              rw [← HA.out, bones_at s k p hlt, if_pos c, data_add, extract_one s k hlt]; simp)
            have HY := Lib.hid (show (so ++ s.extract k (k + 1)).data.toList = so.data.toList ++ [s[k]] by rw [data_add, extract_one s k hlt])
            have hz : (s.extract k (k + 1)).size = 1 := by rw [extract_one s k hlt]; rfl
            have t3 : 1 < (PM.dig s[k] : Int) := by omega
            have t2 : ((s[k].toNat : Int) != (p.toNat : Int)) = true := by simp; intro h; exact c.2 (UInt8.toNat_inj.1 (by omega))
            have HD := Lib.hid (fun W => rdigit_any s[k] W)
            clear c
            go_wp2_with fail
            refine wp_region_below (by kernel_rfl) (by kernel_rfl) ?_
            repeat (go_big_quiet_step ((go_at_call 31; exact grown_call (HD.out _))))
            refine wpQuiet_nil ?_
            intro w3 hC
            have hC := grown_out hC
            have hst := hbw.trans (hC.mono hsz)
            clear hC
            go_wp2
            refine ⟨⟨k + 1, _, so.data.toList, s[k], by omega, by omega, by go_num, rfl, HY.out, by rw [size_add]; omega, by rw [size_add]; omega, by rw [size_add]; omega, HX.out, hst⟩, by simp [intOf]; omega⟩
          · by_cases c1 : 1 < PM.dig s[k]
            · have c2 : s[k] = p := Classical.byContradiction fun h => c ⟨c1, h⟩
              have hwr : IntKind.i64.wrap ((so.size : Int) - 1) = ((so.size - 1 : Nat) : Int) := by rw [wrap_num _ (by omega) (by omega)]; omega
              have HX := Lib.hid (show so.data.toList ++ PM.bones p (s.data.toList.drop (k + 1)) = fullS s hp by rw [← HA.out, bones_at s k p hlt, if_neg c])
              have t3 : 1 < (PM.dig s[k] : Int) := by omega
              have t2 : ((s[k].toNat : Int) != (p.toNat : Int)) = false := by rw [c2]; simp
              have HD := Lib.hid (fun W => rdigit_any s[k] W)
              clear c c1 c2
              go_wp2_with fail
              refine wp_region_below (by kernel_rfl) (by kernel_rfl) ?_
              repeat (go_big_quiet_step ((go_at_call 31; exact grown_call (HD.out _))))
              refine wpQuiet_nil ?_
              intro w3 hC
              have hC := grown_out hC
              have hst := hbw.trans (hC.mono hsz)
              clear hC
              go_wp2
              refine ⟨⟨k + 1, so, acc, p, by omega, by omega, by go_num, rfl, HS.out, hz1, hz6, by omega, HX.out, hst⟩, by simp [intOf]; omega⟩
            · have HX := Lib.hid (show so.data.toList ++ PM.bones p (s.data.toList.drop (k + 1)) = fullS s hp by rw [← HA.out, bones_at s k p hlt, if_neg c])
              have h01 : (PM.dig s[k] : Int) = 0 ∨ (PM.dig s[k] : Int) = 1 := by omega
              clear c c1 hlp
              rcases h01 with h01 | h01
              all_goals
                have HD := Lib.hid (fun W => rdigit_is s[k] _ h01 W)
                clear h01
                go_wp2_with fail
                refine wp_region_below (by kernel_rfl) (by kernel_rfl) ?_
                repeat (go_big_quiet_step ((go_at_call 31; exact grown_call (HD.out _))))
                refine wpQuiet_nil ?_
                intro w3 hC
                have hC := grown_out hC
                have hst := hbw.trans (hC.mono hsz)
                clear hC
                go_wp2
                refine ⟨⟨k + 1, so, acc, p, by omega, by omega, by go_num, rfl, HS.out, hz1, hz6, by omega, HX.out, hst⟩, by simp [intOf]; omega⟩
        · have hfin : (fullS s hp).take 6 = so.data.toList := by
            rw [← HA.out, List.take_append_of_le_length (by simp; omega), List.take_of_length_le (by simp; omega)]
          have HFin := Lib.hid hfin
          clear hfin hlp
          go_wp2
          go_ret
          exact ⟨ret_str (by rw [E.out, HFin.out, bs_list]), hbw⟩
      · have hfin : (fullS s hp).take 6 = so.data.toList := by
          rw [← HA.out, drop_end s k (by omega), PM.bones, List.append_nil, List.take_of_length_le (by simp; omega)]
        have HFin := Lib.hid hfin
        clear hfin hlp
        go_wp2
        go_ret
        exact ⟨ret_str (by rw [E.out, HFin.out, bs_list]), hbw⟩
end Go.Proofs.YtblkebjfnboclaaDoor
