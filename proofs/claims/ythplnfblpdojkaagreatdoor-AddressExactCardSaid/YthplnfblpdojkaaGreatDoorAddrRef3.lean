/- Walks of the reference's Normal, Number, Street, Code, Normed of layer 4; a raw address of the deck. -/
import Derived.Test.YthplnfblpdojkaaGreatDoorAddrRef2
namespace Go.Proofs.YthplnfblpdojkaaGreatDoor
open Go.RowKit
set_option linter.unusedVariables false
set_option maxRecDepth 100000

set_option maxHeartbeats 1000000 in
theorem radrNormal_any (B : Nat) (v : Value) (r : RL) (s : ByteArray) (w : World) (h : IsRules B w v r) (hB : B ≤ w.heap.size) (hm : s.size ≤ maxLen) :
    Calls Tryz.prog 16 #[v, .string s] w fun e w' => e = .returned (.bool (adrB r s)) ∧ Below w.heap.size w w' := by
  have HR := Lib.hid h
  obtain ⟨tv, nv, sv, rfl, -, -, -⟩ := h
  have b0 : Below w.heap.size w (w.alloc (.cells #[tv, nv, sv] 26)) := (Below.refl _ w).alloc (Nat.le_refl _) _
  have HC := Lib.hid (radrNormalise_any B _ r s _ (HR.out.keep (b0.mono hB)) (by simp; omega) hm)
  have HN := Lib.hid (show adrB r s = ((adrVal r s).2 == 0 && (adrVal r s).1.toList == s.toList) from rfl)
  unfold normRet at HC
  generalize adrVal r s = p at *
  obtain ⟨p1, p2⟩ := p
  go_enter Tryz.func16, Tryz.ntmps16
  go_wp2_with fail
  refine HC.out.mono ?_
  rintro e w1 ⟨rfl, b1⟩
  go_wp2
  all_goals go_ret
  all_goals exact ⟨ret_bool (by rw [HN.out]; simp_all), b0.trans (b1.mono (by simp))⟩

set_option maxHeartbeats 1000000 in
theorem rNumber_any (s : ByteArray) (w : World) (hm : s.size ≤ 50000) :
    Calls Tryz.prog 22 #[.string s] w fun e w' => e = .returned (.string (numOf s)) ∧ Below w.heap.size w w' := by
  have HWB := Lib.hid (fun xs => wordsB_of (xs := xs) (s := s))
  have hwl : (wordsB s).length ≤ 50001 := by
    have h1 := congrArg List.length (wordsB_list s)
    have h2 := (words_len s.data.toList []).1
    have h3 := sizeL s
    rw [List.length_map] at h1
    omega
  have HNO := Lib.hid (show numOf s = (numsOf (wordsB s)).headD noB from rfl)
  generalize numOf s = N at *
  generalize wordsB s = ws at *
  have HT := Lib.hid (rTokens_any s w (by omega))
  go_enter Tryz.func22, Tryz.ntmps22
  go_wp2_with fail
  refine HT.out.mono ?_
  rintro e w1 ⟨u, rfl, ⟨xs, hx, hxl⟩, b1⟩
  obtain rfl := HWB.out xs hxl
  clear hxl
  go_wp2_with fail
  refine (rparts_any w1.heap.size u xs w1 hx (Nat.le_refl _) (by omega)).mono ?_
  rintro e w2 ⟨re, nu, rfl, hP, b2⟩
  have hnu := IsTexts.of_own hP.two
  clear hP
  have b2' := b1.trans (b2.mono b1.size)
  have hl := nums_len xs
  generalize numsOf xs = L at *
  obtain ⟨a, c, rfl, h1, h2, h3⟩ := hnu
  unfold maxLen at h2
  cases L with
  | nil =>
    have HN := Lib.hid (show N = noB from HNO.out)
    simp only [List.length_nil]
    go_wp2
    go_ret
    exact ⟨ret_str HN.out.symm, b2'⟩
  | cons y ys =>
    have HN := Lib.hid (show N = y from HNO.out)
    obtain ⟨b, o, rfl, hbB, hc⟩ := h3.resolve_left (by simp)
    have hc := hc 0 y rfl
    rw [Nat.add_zero] at hc
    simp only [List.length_cons] at h1 ⊢
    have hn0 : ¬ ((ys.length : Int) + 1 = 0) := by omega
    have hl0 : (0 : Int) < ((ys.length + 1 : Nat) : Int) := by omega
    go_wp2
    go_ret
    exact ⟨ret_str HN.out.symm, b2'⟩

theorem words_size {s : ByteArray} {n : Nat} (h : s.size ≤ n) : ∀ x ∈ wordsB s, x.size ≤ n := by
  intro x hx
  have hx' : x.data.toList ∈ TM.words [] s.data.toList := by rw [← wordsB_list]; exact List.mem_map.2 ⟨x, hx, rfl⟩
  have h1 := words_each _ _ _ hx'
  rw [sizeL, sizeL] at h1
  simp at h1
  omega
set_option maxHeartbeats 1000000 in
theorem rStreet_any (s : ByteArray) (w : World) (hm : s.size ≤ 50000) :
    Calls Tryz.prog 24 #[.string s] w fun e w' => e = .returned (.string (streetOf s)) ∧ Below w.heap.size w w' := by
  have HWB := Lib.hid (fun xs => wordsB_of (xs := xs) (s := s))
  have hwl : (wordsB s).length ≤ 50001 := by
    have h1 := congrArg List.length (wordsB_list s)
    have h2 := (words_len s.data.toList []).1
    have h3 := sizeL s
    rw [List.length_map] at h1
    omega
  have HSZ := Lib.hid (words_size hm)
  have HNO := Lib.hid (show streetOf s = bs (TM.join ((restOf (wordsB s)).map (·.data.toList))) from rfl)
  generalize streetOf s = N at *
  generalize wordsB s = ws at *
  have HT := Lib.hid (rTokens_any s w (by omega))
  go_enter Tryz.func24, Tryz.ntmps24
  go_wp2_with fail
  refine HT.out.mono ?_
  rintro e w1 ⟨u, rfl, ⟨xs, hx, hxl⟩, b1⟩
  obtain rfl := HWB.out xs hxl
  clear hxl
  go_wp2_with fail
  refine (rparts_any w1.heap.size u xs w1 hx (Nat.le_refl _) (by omega)).mono ?_
  rintro e w2 ⟨re, nu, rfl, hP, b2⟩
  have hre := IsTexts.of_own hP.one
  clear hP
  have b2' := b1.trans (b2.mono b1.size)
  have hl := rest_len xs
  have hJ := rJoin_any w2.heap.size re (restOf xs) w2 hre (by omega) (fun x hx => Nat.le_trans (HSZ.out x (List.mem_filter.1 hx).1) (by omega))
  rw [← HNO.out] at hJ
  have HJ := Lib.hid hJ
  clear hJ
  go_wp2_with fail
  refine HJ.out.mono ?_
  rintro e w3 ⟨rfl, rfl⟩
  go_wp2
  go_ret
  exact ⟨rfl, b2'⟩

set_option maxHeartbeats 2000000 in
theorem rCode_any (s : ByteArray) (w : World) (hm : s.size ≤ maxLen) :
    Calls Tryz.prog 18 #[.string s] w fun e w' => e = .returned (normRet (codeVal s)) ∧ Below w.heap.size w w' := by
  by_cases hv : validB s = true
  · have hFold := rFold_any s w hm
    rw [fold_ok hv] at hFold
    replace hFold : Calls Tryz.prog 40 #[.string s] w fun e w' => e = .returned (.tuple #[.string (foldB s), .int .i64 0]) ∧ Below w.heap.size w w' := hFold
    have HF := Lib.hid hFold
    have hfs := foldB_size hv
    have HLim := Lib.hid (code_limit hv)
    have HFin := Lib.hid (code_fine hv)
    have HCT := Lib.hid (show codeTxt s = bs (TM.noSp (foldB s).data.toList) by unfold codeTxt foldB; rw [list_bs])
    clear hFold hv
    generalize foldB s = fs at *
    generalize codeTxt s = ct at *
    go_enter Tryz.func18, Tryz.ntmps18
    go_wp2_with fail
    refine HF.out.mono ?_
    rintro e w1 ⟨rfl, b1⟩
    go_wp2
    go_loop [6, 7] (fun o i => ∃ (k : Nat) (O : ByteArray), k ≤ fs.size ∧ o = .string O ∧ i = .int .i64 k ∧ O.data.toList = TM.noSp (fs.data.toList.take k) ∧ O.size ≤ k) (fun _ i => fs.size - (intOf i).toNat)
    case atStart => exact ⟨0, ⟨#[]⟩, by omega, rfl, rfl, rfl, Nat.le_refl _⟩
    case round =>
      obtain ⟨k, O, hk, rfl, rfl, hO, hOs⟩ := hrel
      have HO := Lib.hid hO
      clear hO
      by_cases hlt : k < fs.size
      · have hkl : k < fs.data.toList.length := by rw [sizeL]; exact hlt
        have hst := TM.noSp_snoc fs.data.toList k hkl
        have hel : fs.data.toList[k] = fs[k] := rfl
        rw [hel, ← HO.out] at hst
        have HST := Lib.hid hst
        have hx1 : (fs.extract k (k + 1)).size = 1 := by simp; omega
        have hxl : (fs.extract k (k + 1)).data.toList = [fs[k]] := by
          rw [Lib.extract_data, show k + 1 - k = 1 by omega, List.drop_eq_getElem_cons hkl]
          rfl
        have HXL := Lib.hid hxl
        have he2 : (k : Int) ≤ (k : Int) + 1 := by omega
        have he3 : (k : Int) + 1 ≤ (fs.size : Int) := by omega
        clear hst hxl hel
        by_cases h32 : (fs[k].toNat : Int) = 32
        · have h32' : fs[k].toNat = 32 := by omega
          go_wp2
          refine ⟨⟨k + 1, O, by omega, rfl, by go_num, ?_, by omega⟩, by simp [intOf]; omega⟩
          rw [HST.out, if_pos h32', List.append_nil]
        · have h32' : ¬ fs[k].toNat = 32 := by omega
          go_wp2
          refine ⟨⟨k + 1, O ++ fs.extract k (k + 1), by omega, rfl, by go_num, ?_, by rw [size_add]; omega⟩, by simp [intOf]; omega⟩
          rw [HST.out, if_neg h32', data_add, HXL.out]
      · obtain rfl : k = fs.size := by omega
        have hO' : O = ct := by
          rw [HCT.out]
          apply ba_ext
          rw [list_bs, HO.out, List.take_of_length_le (by rw [sizeL]; exact Nat.le_refl _)]
        subst hO'
        go_wp2
        all_goals go_ret2
        all_goals first
          | exact ⟨by rw [HLim.out (by omega)]; rfl, b1⟩
          | exact ⟨by rw [HFin.out (by omega)]; rfl, b1⟩
  · have hv' : validB s = false := by simpa using hv
    have hFold := rFold_any s w hm
    rw [fold_no hv'] at hFold
    have HF := Lib.hid hFold
    have HN := Lib.hid (code_text hv')
    clear hFold hv hv'
    go_enter Tryz.func18, Tryz.ntmps18
    go_wp2_with fail
    refine HF.out.mono ?_
    rintro e w1 ⟨rfl, b1⟩
    go_wp2
    go_ret2
    exact ⟨by rw [HN.out]; rfl, b1⟩
set_option maxHeartbeats 1000000 in
theorem rNormed_any (s : ByteArray) (w : World) (hm : s.size ≤ maxLen) :
    Calls Tryz.prog 20 #[.string s] w fun e w' => e = .returned (.bool (codeB s)) ∧ Below w.heap.size w w' := by
  have HC := Lib.hid (rCode_any s w hm)
  have HN := Lib.hid (show codeB s = ((codeVal s).2 == 0 && (codeVal s).1.toList == s.toList) from rfl)
  unfold normRet at HC
  generalize codeVal s = p at *
  obtain ⟨p1, p2⟩ := p
  go_enter Tryz.func20, Tryz.ntmps20
  go_wp2_with fail
  refine HC.out.mono ?_
  rintro e w1 ⟨rfl, b1⟩
  go_wp2
  all_goals go_ret
  all_goals exact ⟨ret_bool (by rw [HN.out]; simp_all), b1⟩

def rawL : List ByteArray := [⟨#[49, 50, 32, 77, 97, 105, 110, 32, 83, 116, 46]⟩, ⟨#[77, 97, 105, 110, 32, 83, 116, 32, 49, 50]⟩, ⟨#[80, 97, 114, 107, 32, 82, 100, 32, 51, 98]⟩, ⟨#[77, 97, 105, 110, 32, 83, 116, 114, 101, 101, 116]⟩, ⟨#[48, 48, 55, 32, 80, 97, 114, 107, 32, 114, 100]⟩]
theorem raw_size : ∀ x ∈ rawL, x.size ≤ 11 := by decide
set_option maxHeartbeats 1000000 in
theorem RawAddress_any (g : Nat) (w : World) (h : Deck g w) :
    Calls Tryz.prog 9 #[.pointer (some ⟨g, 0, none⟩), .int .i64 4] w fun e w' => ∃ s, e = .returned (.string s) ∧ s.size ≤ 11 ∧ Deck g w' ∧ w.grownBy w' (some g) := by
  go_enter Tryz.func9, Tryz.ntmps9
  go_wp2_with fail
  refine (One_any g w h 8 (by omega) (by omega)).mono ?_
  rintro e w1 ⟨b, rfl, hd1, g1⟩
  cases b
  · go_wp2_with fail
    refine (Pick_lit g w1 rawL hd1 (by decide) (by decide)).mono ?_
    rintro e w2 ⟨s, hs, rfl, hd2, g2⟩
    have hz := raw_size s hs
    clear hs
    go_wp2
    go_ret
    exact ⟨s, rfl, hz, hd2, grown_trans g1 g2⟩
  · go_wp2
    go_ret
    exact ⟨⟨#[]⟩, rfl, by decide, hd1, g1⟩
end Go.Proofs.YthplnfblpdojkaaGreatDoor
