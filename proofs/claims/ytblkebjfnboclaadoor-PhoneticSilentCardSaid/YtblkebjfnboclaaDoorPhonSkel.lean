/- The walk of the program's Skeleton. -/
import Derived.Test.YtblkebjfnboclaaDoorPhonCode
namespace Go.Proofs.YtblkebjfnboclaaDoor
open Go.RowKit
set_option maxRecDepth 100000

theorem bones_at (s : ByteArray) (k : Nat) (p : UInt8) (h : k < s.size) : PM.bones p (s.data.toList.drop k) = if 1 < PM.dig s[k] ∧ s[k] ≠ p then s[k] :: PM.bones s[k] (s.data.toList.drop (k + 1)) else PM.bones p (s.data.toList.drop (k + 1)) := by
  rw [drop_at s k h, PM.bones]

theorem isDigit_is (c : UInt8) (b : Bool) (h : decide (1 < PM.dig c) = b) (w : World) :
    Calls Tryd.prog 29 #[.int .u8 (PM.pd (PM.dig c))] w fun e w' => e = .returned (.bool b) ∧ w = w' := by
  subst h
  exact isDigit_any c w
set_option maxHeartbeats 4000000 in
theorem Skeleton_any (s : ByteArray) (w : World) :
    Calls Tryd.prog 17 #[.string s] w fun e w' => e = .returned (.string (skB s)) ∧ Below w.heap.size w w' := by
  obtain ⟨i0, hi0, hz0, hz1, hz2⟩ := info_parts byteInfo
  go_enter Tryd.func17, Tryd.ntmps17
  go_wp2_with fail
  refine (isToken_any s w).mono ?_
  rintro e w1 ⟨rfl, b1⟩
  cases hT : ptokB s
  · have E := Lib.hid (skB_no hT)
    clear hT
    go_wp2
    go_ret
    exact ⟨ret_str E.out.symm, b1⟩
  · obtain ⟨hp, h64⟩ := ptok_pos hT
    have E := Lib.hid (skB_yes hT hp)
    clear hT
    have HO := Lib.hid (ownsB_one w1 s[0])
    have hs1 := b1.size
    have HF := Lib.hid (show fullS s hp = s[0] :: PM.bones s[0] (s.data.toList.drop 1) from rfl)
    go_wp2
    go_loopw [3, 4] (fun v i wr => ∃ (k : Nat) (acc : List UInt8) (p : UInt8), 1 ≤ k ∧ k ≤ s.size ∧ i = .int .i64 k ∧ acc.length + 1 ≤ k ∧ acc.length + 1 ≤ 6 ∧ OwnsB w1.heap.size wr v (acc ++ [p]) ∧
        (acc ++ [p]) ++ PM.bones p (s.data.toList.drop k) = fullS s hp ∧ Below w.heap.size w wr) (fun _ i _ => s.size - (intOf i).toNat)
    case atStart => exact ⟨1, [], s[0], by omega, by omega, rfl, by simp, by simp, HO.out, HF.out.symm, b1.alloc hs1 _⟩
    case round =>
      obtain ⟨k, acc, p, hk1, hk, rfl, hlk, hl6, hown, hacc, hbw⟩ := hrel
      have HA := Lib.hid hacc
      have HW := Lib.hid hown
      clear hacc hown
      obtain ⟨g, cap, rfl, hg1, hg2, hcap, hcm, hlast, hconv⟩ := HW.out.last
      have HKC := Lib.hid hconv
      clear hconv
      obtain ⟨n, hn⟩ : ∃ n, n = acc.length := ⟨_, rfl⟩
      rw [← hn] at hlk hl6 HW HKC hcap hlast ⊢
      have HN := Lib.hid hn
      clear hn
      unfold maxLen at hcm
      have hsz := hbw.size
      have hwr : IntKind.i64.wrap (n : Int) = (n : Int) := wrap_num _ (by omega) (by omega)
      have hn1 : (n : Int) < (n : Int) + 1 := by omega
      by_cases hlt : k < s.size
      · by_cases h6 : n + 1 < 6
        · by_cases c1 : 1 < PM.dig s[k]
          · have HD := Lib.hid (fun W => isDigit_is s[k] true (by simpa using c1) W)
            by_cases c2 : s[k] = p
            · have t2 : ((s[k].toNat : Int) != (p.toNat : Int)) = false := by simp [c2]
              have HX := Lib.hid (show (acc ++ [p]) ++ PM.bones p (s.data.toList.drop (k + 1)) = fullS s hp by rw [← HA.out, bones_at s k p hlt, if_neg (fun h => h.2 c2)])
              clear c1 c2
              go_wp2_with fail
              go_quiet ((first
                | (go_at_call 28; exact quiet_same (digit_any s[k] _))
                | (go_at_call 29; exact quiet_same (HD.out _))))
              go_wp2
              exact ⟨⟨k + 1, acc, p, by omega, by omega, by go_num, by have := HN.out; omega, by have := HN.out; omega, HW.out, HX.out, below_drewN hbw _⟩, by simp [intOf]; omega⟩
            · have t2 : ((s[k].toNat : Int) != (p.toNat : Int)) = true := by simp; intro h; exact c2 (UInt8.toNat_inj.1 (by omega))
              have HX := Lib.hid (show (acc ++ [p] ++ [s[k]]) ++ PM.bones s[k] (s.data.toList.drop (k + 1)) = fullS s hp by rw [← HA.out, bones_at s k p hlt, if_pos ⟨c1, c2⟩]; simp)
              clear c1 c2
              go_wp2_with fail
              go_quiet ((first
                | (go_at_call 28; exact quiet_same (digit_any s[k] _))
                | (go_at_call 29; exact quiet_same (HD.out _))))
              have HW' : Hid (OwnsB w1.heap.size (wr.drewN nq) (.slice (some ⟨g, 0, none⟩) (n + 1) cap) (acc ++ [p])) := HW
              have hbw' := below_drewN hbw nq
              have hnl := HN.out
              generalize wr.drewN nq = wq at *
              have hwq := hbw'.size
              have hgq : w1.heap.size ≤ wq.heap.size := by
                obtain ⟨g', cap', -, h1, h2, -⟩ := HW'.out.form (by simp)
                omega
              go_wp2_with (at_builtin; refine wpList_append_own _ rfl _ _ 40 rfl w1.heap.size 5 i0 (.int .u8 0) 1 1 Tryd.underlying40 hi0 hz0 hz1 hz2 rfl (by decide) _ _ _ rfl (HW'.out.alloc _) ⟨wq.heap.size, 0, none⟩ 1 1 [.int .u8 (s[k].toNat : Int)] rfl rfl ?c1 ?c2 ?c3 ?c4 ?c5 ?_)
              case c1 =>
                intro j u hj
                match j, hj with
                | 0, hj => simp at hj; subst hj; simp [Addr.add]
              case c2 => intro u hu; simp at hu; subst hu; rfl
              case c3 => unfold maxLen; simp; omega
              case c4 => simp; omega
              case c5 => simp; omega
              intro v' w2 hown' hgrow _
              go_wp2
              refine ⟨⟨k + 1, acc ++ [p], s[k], by omega, by omega, by go_num, by simp; omega, by simp; omega, ?_, HX.out, ?_⟩, by simp [intOf]; omega⟩
              · unfold OwnsB
                rw [List.map_append, List.map_cons, List.map_nil]
                simpa using hown'
              · exact (hbw'.alloc (by omega) _).grown hgrow (by simp; omega) (fun g hg => Nat.le_trans hs1 (HW'.out.lt g hg).1)
          · have HD := Lib.hid (fun W => isDigit_is s[k] false (by simpa using c1) W)
            have HX := Lib.hid (show (acc ++ [p]) ++ PM.bones p (s.data.toList.drop (k + 1)) = fullS s hp by rw [← HA.out, bones_at s k p hlt, if_neg (fun h => c1 h.1)])
            clear c1
            go_wp2_with fail
            go_quiet ((first
              | (go_at_call 28; exact quiet_same (digit_any s[k] _))
              | (go_at_call 29; exact quiet_same (HD.out _))))
            go_wp2
            exact ⟨⟨k + 1, acc, p, by omega, by omega, by go_num, by have := HN.out; omega, by have := HN.out; omega, HW.out, HX.out, below_drewN hbw _⟩, by simp [intOf]; omega⟩
        · have hfin : (fullS s hp).take 6 = acc ++ [p] := by
            rw [← HA.out, List.take_append_of_le_length (by have := HN.out; simp; omega), List.take_of_length_le (by have := HN.out; simp; omega)]
          have HFin := Lib.hid hfin
          clear hfin
          have kc := HKC.out
          generalize hT : bs (acc ++ [p]) = T at kc
          have HT := Lib.hid hT
          clear hT
          go_wp2
          go_ret
          exact ⟨ret_str (by rw [E.out, HFin.out, HT.out]), hbw⟩
      · have hfin : (fullS s hp).take 6 = acc ++ [p] := by
          rw [← HA.out, drop_end s k (by omega), PM.bones, List.append_nil, List.take_of_length_le (by have := HN.out; simp; omega)]
        have HFin := Lib.hid hfin
        clear hfin
        have kc := HKC.out
        generalize hT : bs (acc ++ [p]) = T at kc
        have HT := Lib.hid hT
        clear hT
        go_wp2
        go_ret
        exact ⟨ret_str (by rw [E.out, HFin.out, HT.out]), hbw⟩
end Go.Proofs.YtblkebjfnboclaaDoor
