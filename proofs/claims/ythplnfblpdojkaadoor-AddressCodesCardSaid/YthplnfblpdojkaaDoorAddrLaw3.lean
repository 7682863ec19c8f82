/- AddressCodes. -/
import Derived.Test.YthplnfblpdojkaaDoorAddrLaw1
namespace Go.Proofs.YthplnfblpdojkaaDoor
open Go.RowKit
set_option linter.unusedVariables false
set_option maxRecDepth 100000

theorem ch_one : ∀ x ∈ chL, x.size = 1 ∧ x.data.toList.all chs = true := by decide
theorem sep_size : ∀ x ∈ sepL, x.size ≤ 1 := by decide
theorem ext_one (s : ByteArray) (k : Nat) (h : k < s.size) : (s.extract k (k + 1)).data.toList = [s.data.toList[k]'(by rw [sizeL]; exact h)] := by
  have hk : k < s.data.toList.length := by rw [sizeL]; exact h
  have h1 : (s.extract k (k + 1)).data.toList = (s.data.toList.drop k).take 1 := by
    rw [Lib.extract_data]
    congr 1
    omega
  rw [h1, List.drop_eq_getElem_cons hk]
  rfl

set_option maxRecDepth 100000 in
set_option maxHeartbeats 4000000 in
theorem AddressCodes_walk (A : Option Addr) (n c : Nat) (w : World) (hE : Env w) (hI : IntsArg w A n c) :
    Calls Tryd.prog 6 #[.slice A n c] w fun e w' => e = .returned (.bool true) ∧ Below w.heap.size w w' := by
  have HE := Lib.hid hE
  have HI := Lib.hid hI
  clear hE hI
  go_enter Tryd.func6, Tryd.ntmps6
  go_wp2_with fail
  refine (awake4_any w HE.out).mono ?_
  rintro e w1 ⟨rfl, b1⟩
  go_wp2_with fail
  refine (Few_any A n c w1 (Nat.le_trans HI.out.1 HI.out.2.1)).mono ?_
  rintro e w1' ⟨rfl, rfl⟩
  have hE1 := Lib.hid (HE.out.below b1 HE.out.size)
  by_cases hn : n ≤ 400
  · have hd : decide (n ≤ 400) = true := by simp [hn]
    rw [hd]
    clear hd
    go_wp2_with fail
    refine (New_any A n c w1 (HI.out.below b1)).mono ?_
    rintro e w2 ⟨rfl, hd2, b2⟩
    generalize hg : w1.heap.size = g at *
    have HG := Lib.hid hg
    clear hg
    have hgw : w.heap.size ≤ g := by rw [← HG.out]; exact b1.size
    have b2' : Below w.heap.size w w2 := b1.trans (b2.mono hgw)
    go_wp2_with fail
    refine (Next_any g w2 hd2 15 (by omega) (by omega)).mono ?_
    rintro e w3 ⟨x, rfl, ⟨hx0, hx1⟩, hd3, g3⟩
    obtain ⟨m, rfl⟩ := Int.eq_ofNat_of_zero_le hx0
    have hm : m < 15 := by omega
    have hsz3 := g3.size
    go_wp2
    go_loopw [4, 5] (fun s i wr => ∃ (k : Nat) (cc : ByteArray), cc.size + k ≤ 14 ∧ s = .string cc ∧ i = .int .i64 k ∧ cc.data.toList.all chs = true ∧ Deck g wr ∧ w2.grownBy wr (some g)) (fun _ i _ => (intOf i).toNat)
    case atStart => exact ⟨m, ⟨#[]⟩, by show 0 + m ≤ 14; omega, rfl, by go_num, rfl, hd3, g3⟩
    case round =>
      obtain ⟨k, cc, hk, rfl, rfl, hcc, hd, hgr⟩ := hrel
      have HCC := Lib.hid hcc
      clear hcc
      by_cases hlt : 0 < k
      · have e1 : (k : Int) - 1 = ((k - 1 : Nat) : Int) := by omega
        have hlt' : (0 : Int) < (k : Int) := by omega
        go_wp2_with fail
        refine (Pick_lit g wr chL hd (by decide) (by decide)).mono ?_
        rintro e w4 ⟨y, hy, rfl, hd4, g4⟩
        obtain ⟨y1, y2⟩ := ch_one y hy
        have Y2 := Lib.hid y2
        clear y2 hy
        go_wp2
        refine ⟨⟨k - 1, cc ++ y, by rw [size_add]; omega, rfl, by go_num, ?_, hd4, grown_trans hgr g4⟩, by simp [intOf]; omega⟩
        rw [data_add, List.all_append, HCC.out, Y2.out]; rfl
      · have hlt' : ¬ (0 : Int) < (k : Int) := by omega
        have hc14 : cc.size ≤ 14 := by omega
        have hszr := hgr.size
        go_wp2
        go_loopw [6, 7] (fun s i wr2 => ∃ (j : Nat) (D : ByteArray), j ≤ cc.size ∧ s = .string D ∧ i = .int .i64 j ∧ DrC cc.data.toList j D ∧ Deck g wr2 ∧ w2.grownBy wr2 (some g)) (fun _ i _ => cc.size - (intOf i).toNat)
        case atStart => exact ⟨0, ⟨#[]⟩, by omega, rfl, rfl, DrC.zero _, hd, hgr⟩
        case round =>
          obtain ⟨j, D, hj, rfl, rfl, hdr, hd5, hg5⟩ := hrel
          have hDs : D.size ≤ 2 * j := hdr.2.2
          have HDR := Lib.hid hdr
          clear hdr
          by_cases hlt2 : j < cc.size
          · have hjl : j < cc.data.toList.length := by rw [sizeL]; exact hlt2
            have hxl := ext_one cc j hlt2
            have hxz : (cc.extract j (j + 1)).size = 1 := by have := congrArg List.length hxl; rw [sizeL] at this; simpa using this
            have HST := Lib.hid (fun x s hx hs => HDR.out.step (x := x) (s := s) hjl HCC.out hx hs)
            obtain ⟨x, hx⟩ : ∃ x, cc.extract j (j + 1) = x := ⟨_, rfl⟩
            rw [hx] at hxl hxz
            have HXL := Lib.hid hxl
            clear hxl
            have hA : (⟨#[65]⟩ : ByteArray).size = 1 := rfl
            cases h97 : (x.toList == [97])
            · go_wp2_with fail
              refine (Pick_lit g wr sepL hd5 (by decide) (by decide)).mono ?_
              rintro e w7 ⟨s, hs, rfl, hd7, g7⟩
              have hss := sep_size s hs
              have HS := Lib.hid (HST.out x s (.inl HXL.out) hs)
              clear hs
              go_wp2
              exact ⟨⟨j + 1, D ++ (x ++ s), by omega, rfl, by go_num, HS.out, hd7, grown_trans hg5 g7⟩, by simp [intOf]; omega⟩
            · have hc97 : cc.data.toList[j] = 97 := by
                have h1 := HXL.out
                rw [← Lib.toList_data, beq_iff_eq.1 h97] at h1
                exact (List.cons.inj h1).1.symm
              have HC97 := Lib.hid hc97
              clear hc97
              go_wp2_with fail
              refine (One_any g wr hd5 2 (by omega) (by omega)).mono ?_
              rintro e w6 ⟨bb, rfl, hd6, g6⟩
              cases bb
              · go_wp2_with fail
                refine (Pick_lit g w6 sepL hd6 (by decide) (by decide)).mono ?_
                rintro e w7 ⟨s, hs, rfl, hd7, g7⟩
                have hss := sep_size s hs
                have HS := Lib.hid (HST.out x s (.inl HXL.out) hs)
                clear hs
                go_wp2
                exact ⟨⟨j + 1, D ++ (x ++ s), by omega, rfl, by go_num, HS.out, hd7, grown_trans hg5 (grown_trans g6 g7)⟩, by simp [intOf]; omega⟩
              · go_wp2_with fail
                refine (Pick_lit g w6 sepL hd6 (by decide) (by decide)).mono ?_
                rintro e w7 ⟨s, hs, rfl, hd7, g7⟩
                have hss := sep_size s hs
                have HS := Lib.hid (HST.out ⟨#[65]⟩ s (.inr ⟨HC97.out, rfl⟩) hs)
                clear hs
                go_wp2
                exact ⟨⟨j + 1, D ++ (⟨#[65]⟩ ++ s), by omega, rfl, by go_num, HS.out, hd7, grown_trans hg5 (grown_trans g6 g7)⟩, by simp [intOf]; omega⟩
          · obtain rfl : j = cc.size := by omega
            obtain ⟨hv, hz⟩ := DrC.val (c := cc) (D := D) (by rw [sizeL]; exact HDR.out) hc14
            have br : Below w.heap.size w wr := b2'.trans (below_of_grown hg5 hgw b2'.size)
            have hCd := Code_any D wr (HE.out.below br HE.out.size) (by unfold maxLen; omega)
            rw [hv] at hCd
            clear hv
            by_cases h12 : 12 < cc.size
            · rw [if_pos h12] at hCd
              unfold normRet noB at hCd
              have HCd := Lib.hid hCd
              clear hCd
              go_wp2_with fail
              refine HCd.out.mono ?_
              rintro e w6 ⟨rfl, b6⟩
              go_wp2
              go_ret
              exact ⟨ret_bool (by simp), br.trans (b6.mono br.size)⟩
            · rw [if_neg h12] at hCd
              unfold normRet at hCd
              have HCd := Lib.hid hCd
              clear hCd
              go_wp2_with fail
              refine HCd.out.mono ?_
              rintro e w6 ⟨rfl, b6⟩
              have HLt := Lib.hid (rLetters_any cc w6 (by omega))
              go_wp2_with (go_at_call 24; refine HLt.out.mono ?_; rintro e wz ⟨rfl, rfl⟩)
              all_goals go_ret
              all_goals exact ⟨ret_bool (by simp), br.trans (b6.mono br.size)⟩
  · have hd : decide (n ≤ 400) = false := by simp; omega
    rw [hd]
    clear hd
    go_wp2_with fail
    refine (awake4_any w1 hE1.out).mono ?_
    rintro e w2 ⟨rfl, b2⟩
    go_wp2
    go_ret
    exact ⟨rfl, b1.trans (b2.mono b1.size)⟩
end Go.Proofs.YthplnfblpdojkaaDoor
