/- Walks of address.Normalise, Normal, Number, Street, Code, Normed. -/
import Derived.Test.YthplnfblpdojkaaGreatDoorAddrConcat
import Derived.Test.YthplnfblpdojkaaGreatDoorAddrMath2
namespace Go.Proofs.YthplnfblpdojkaaGreatDoor
open Go.RowKit
set_option linter.unusedVariables false
set_option maxRecDepth 100000

theorem foldB_size {s : ByteArray} (h : validB s = true) : (foldB s).size ≤ 64 := by
  have := (valid_size h).2
  rw [show (foldB s).size = (TM.fold s.data.toList).length from size_of_list _]; exact this
theorem adr_bounds {r : RL} (hr : rightB r = true) {s : ByteArray} (hv : validB s = true) : (adrTxt r s).size ≤ 5000 := by
  have h1 := toks_fine hr hv
  have h2 : (adrToks r (wordsB (foldB s))).length ≤ 65 := by rw [toks_len]; exact words_count hv
  unfold adrTxt joinOf
  rw [show (bs (TM.join ((adrToks r (wordsB (foldB s))).map (·.data.toList)))).size = (TM.join ((adrToks r (wordsB (foldB s))).map (·.data.toList))).length from size_of_list _]
  generalize adrToks r (wordsB (foldB s)) = T at *
  have : ∀ L : List ByteArray, (∀ x ∈ L, x.size ≤ 65) → (TM.join (L.map (·.data.toList))).length ≤ L.length * 66 := by
    intro L
    induction L with
    | nil => intro _; simp [TM.join]
    | cons a t ih =>
      intro h
      have ha := h a (by simp)
      have ih := ih (fun x hx => h x (by simp [hx]))
      have hs := sizeL a
      cases t with
      | nil => simp only [List.map_cons, List.map_nil, TM.join, List.length_cons, List.length_nil]; omega
      | cons b u =>
        simp only [List.map_cons, TM.join, List.length_append, List.length_cons] at ih ⊢
        omega
  have := this T (fun x hx => (h1 x hx).2.2)
  omega

set_option maxRecDepth 100000 in
set_option maxHeartbeats 4000000 in
theorem adrNormalise_any (B : Nat) (v : Value) (r : RL) (s : ByteArray) (w : World) (hE : Env w) (h : IsRules B w v r) (hB : B ≤ w.heap.size) (hm : s.size ≤ maxLen) :
    Calls Tryz.prog 13 #[v, .string s] w fun e w' => e = .returned (normRet (adrVal r s)) ∧ Below w.heap.size w w' := by
  have HR := Lib.hid h
  obtain ⟨tv, nv, sv, rfl, -, -, hsv⟩ := h
  have HSV := Lib.hid hsv
  clear hsv
  have b0 : Below w.heap.size w (w.alloc (.cells #[tv, nv, sv] 26)) := (Below.refl _ w).alloc (Nat.le_refl _) _
  have HE := Lib.hid hE
  clear hE
  have hCk := Check_any B _ r _ (HR.out.keep (b0.mono hB)) (by simp; omega)
  obtain ⟨c, hc⟩ : ∃ c, checkV r = c := ⟨_, rfl⟩
  rw [hc] at hCk
  have HCk := Lib.hid hCk
  have HC := Lib.hid hc
  clear hc hCk
  by_cases h0 : c = 0
  · subst h0
    by_cases hv : validB s = true
    · have HV := Lib.hid hv
      have hFold := Fold_any s
      rw [fold_ok hv] at hFold
      replace hFold : ∀ (w : World), Env w → s.size ≤ maxLen → Calls Tryz.prog 31 #[.string s] w fun e w' => e = .returned (.tuple #[.string (foldB s), .int .i64 0]) ∧ Below w.heap.size w w' := hFold
      have HF := Lib.hid hFold
      clear hFold
      have hwc := words_count hv
      have HWF := Lib.hid (words_fine hv)
      have hfs := foldB_size hv
      have htl : (adrToks r (wordsB (foldB s))).length ≤ 65 := by rw [toks_len]; exact words_count hv
      have hts := adr_bounds (check_zero HC.out) hv
      have HLim := Lib.hid (adr_limit s HC.out HV.out)
      have HFin := Lib.hid (adr_fine s HC.out HV.out)
      have HTX := Lib.hid (show adrTxt r s = joinOf (adrToks r (wordsB (foldB s))) from rfl)
      have HTK := Lib.hid (show adrToks r (wordsB (foldB s)) = (restOf (wordsB (foldB s))).map (canonB r.streets) ++ (numsOf (wordsB (foldB s))).map trimB from rfl)
      have HWB := Lib.hid (fun xs => wordsB_of (xs := xs) (s := foldB s))
      clear hv
      generalize adrTxt r s = X at *
      generalize adrToks r (wordsB (foldB s)) = T at *
      generalize wordsB (foldB s) = ws at *
      generalize foldB s = fs at *
      go_enter Tryz.func13, Tryz.ntmps13
      go_wp2_with fail
      refine HCk.out.mono ?_
      rintro e w1 ⟨rfl, b1⟩
      have c1 := b1.mono (B' := w.heap.size + 1) (by simp)
      have b1' := b0.trans (c1.mono (by omega))
      go_wp2_with fail
      refine (HF.out w1 (HE.out.below b1' HE.out.size) hm).mono ?_
      rintro e w2 ⟨rfl, b2⟩
      have c2 := c1.trans (b2.mono (by have := c1.size; simpa using this))
      have b2' := b0.trans (c2.mono (by omega))
      go_wp2_with fail
      refine (Tokens_any fs w2 (HE.out.below b2' HE.out.size) (by omega)).mono ?_
      rintro e w3 ⟨u, rfl, ⟨xs, hx, hxl⟩, b3⟩
      obtain rfl := HWB.out xs hxl
      clear hxl
      have c3 := c2.trans (b3.mono (by have := c2.size; simpa using this))
      have b3' := b0.trans (c3.mono (by omega))
      go_wp2_with fail
      refine (parted_any w3.heap.size u xs w3 hx (Nat.le_refl _) (by omega)).mono ?_
      rintro e w4 ⟨nu, re, rfl, ⟨hnu, -⟩, ⟨hre, -⟩, b4⟩
      have HNU := Lib.hid hnu
      have HRE := Lib.hid hre
      clear hnu hre hx
      have hnl := nums_len xs
      have hrl := rest_len xs
      have c4 := c3.trans (b4.mono (by have := c3.size; simpa using this))
      have b4' := b0.trans (c4.mono (by omega))
      have hB4 : B ≤ w4.heap.size := Nat.le_trans hB b4'.size
      obtain ⟨g0, g1, g2⟩ := box_cells c4
      go_wp2_with fail
      clear g0 g1 g2
      refine (mapped_any w4.heap.size re sv (restOf xs) r.streets w4 HRE.out ((HSV.out.keep (b4'.mono hB)).more hB4) (Nat.le_refl _) (by omega)).mono ?_
      rintro e w5 ⟨m, rfl, ⟨hmm, pm⟩, b5⟩
      have hml : ((restOf xs).map (canonB r.streets)).length ≤ xs.length := by rw [List.length_map]; omega
      have htl2 : ((numsOf xs).map trimB).length ≤ xs.length := by rw [List.length_map]; omega
      have htl3 : ((restOf xs).map (canonB r.streets)).length + ((numsOf xs).map trimB).length ≤ 1000 := by omega
      generalize (restOf xs).map (canonB r.streets) = M at *
      have HMM := Lib.hid hmm
      have PM := Lib.hid pm
      obtain ⟨ma, mc, rfl, -, -, -⟩ := hmm
      clear pm
      have b5' := b4'.trans (b5.mono b4'.size)
      have hNU5 := (HNU.out.keep b5).more b5.size
      have HNU5 := Lib.hid hNU5
      clear hNU5
      go_wp2_with fail
      refine (trimmed_any w5.heap.size nu (numsOf xs) w5 HNU5.out (Nat.le_refl _) (by omega) (fun x hx => Nat.le_trans (HWF.out x (List.mem_filter.1 hx).1).2.2 (by omega))).mono ?_
      rintro e w6 ⟨t, rfl, ⟨htt, pt⟩, b6⟩
      have b6' := b5'.trans (b6.mono b5'.size)
      generalize (numsOf xs).map trimB = N at *
      obtain ⟨ta, tc, hte, -, -, -⟩ := id htt
      subst hte
      have hal := below_alloc w6 (.cells #[.slice ma M.length mc, .slice ta N.length tc] 23)
      have HMM6 := Lib.hid (((HMM.out.keep b6).more b6.size).keep hal)
      have HTT6 := Lib.hid (htt.keep hal)
      have PT := Lib.hid pt
      clear htt pt
      have b6a := b6'.trans (hal.mono b6'.size)
      have k0 : (w6.alloc (.cells #[.slice ma M.length mc, .slice ta N.length tc] 23)).cell? ⟨w6.heap.size, 0, none⟩ = some (.slice ma M.length mc) := by simp
      have k1 : (w6.alloc (.cells #[.slice ma M.length mc, .slice ta N.length tc] 23)).cell? ⟨w6.heap.size, 1, none⟩ = some (.slice ta N.length tc) := by simp
      have hcc := Concat_two w6.heap.size w6.heap.size _ _ M N (w6.alloc (.cells #[.slice ma M.length mc, .slice ta N.length tc] 23)) (by simp) k0 k1 HMM6.out PM.out HTT6.out PT.out (by simp) htl3
      rw [← HTK.out] at hcc
      have HCC := Lib.hid hcc
      clear hcc k0 k1 hal
      go_wp2_with fail
      refine HCC.out.mono ?_
      rintro e w7 ⟨cu, rfl, ⟨hcu, -⟩, b7⟩
      have b7' := b6a.trans (b7.mono b6a.size)
      have hJ := Join_any w7.heap.size cu T w7 hcu (Nat.le_refl _) (by omega) (by
        rw [← show (joinOf T).size = (TM.join (T.map (·.data.toList))).length from size_of_list _, ← HTX.out]; omega)
      replace hJ : Calls Tryz.prog 38 #[cu] w7 fun e w' => e = .returned (.string (joinOf T)) ∧ Below w7.heap.size w7 w' := hJ
      rw [← HTX.out] at hJ
      have HJ := Lib.hid hJ
      clear hJ
      obtain ⟨ua, uc, rfl, -, -, -⟩ := hcu
      go_wp2_with fail
      refine HJ.out.mono ?_
      rintro e w8 ⟨rfl, b8⟩
      have b8' := b7'.trans (b8.mono b7'.size)
      go_wp2
      all_goals go_ret2
      all_goals first
        | exact ⟨by rw [HLim.out (by omega)]; rfl, b8'⟩
        | exact ⟨by rw [HFin.out (by omega)]; rfl, b8'⟩
    · have hv' : validB s = false := by simpa using hv
      have hFold := Fold_any s
      rw [fold_no hv'] at hFold
      have HF := Lib.hid hFold
      have HN := Lib.hid (adr_text s HC.out hv')
      clear hFold hv hv'
      go_enter Tryz.func13, Tryz.ntmps13
      go_wp2_with fail
      refine HCk.out.mono ?_
      rintro e w1 ⟨rfl, b1⟩
      have b1' := b0.trans (b1.mono (by simp))
      go_wp2_with fail
      refine (HF.out w1 (HE.out.below b1' HE.out.size) hm).mono ?_
      rintro e w2 ⟨rfl, b2⟩
      have b2' := b1'.trans (b2.mono b1'.size)
      go_wp2
      go_ret2
      exact ⟨by rw [HN.out]; rfl, b2'⟩
  · have HN := Lib.hid (adr_check s HC.out h0)
    have t0 : (c != 0) = true := by simp [h0]
    clear h0
    go_enter Tryz.func13, Tryz.ntmps13
    go_wp2_with fail
    refine HCk.out.mono ?_
    rintro e w1 ⟨rfl, b1⟩
    go_wp2
    go_ret2
    exact ⟨by rw [HN.out]; rfl, b0.trans (b1.mono (by simp))⟩

set_option maxHeartbeats 1000000 in
theorem adrNormal_any (B : Nat) (v : Value) (r : RL) (s : ByteArray) (w : World) (hE : Env w) (h : IsRules B w v r) (hB : B ≤ w.heap.size) (hm : s.size ≤ maxLen) :
    Calls Tryz.prog 15 #[v, .string s] w fun e w' => e = .returned (.bool (adrB r s)) ∧ Below w.heap.size w w' := by
  have HR := Lib.hid h
  obtain ⟨tv, nv, sv, rfl, -, -, -⟩ := h
  have b0 : Below w.heap.size w (w.alloc (.cells #[tv, nv, sv] 26)) := (Below.refl _ w).alloc (Nat.le_refl _) _
  have HC := Lib.hid (adrNormalise_any B _ r s _ (hE.alloc (.cells #[tv, nv, sv] 26)) (HR.out.keep (b0.mono hB)) (by simp; omega) hm)
  have HN := Lib.hid (show adrB r s = ((adrVal r s).2 == 0 && (adrVal r s).1.toList == s.toList) from rfl)
  unfold normRet at HC
  generalize adrVal r s = p at *
  obtain ⟨p1, p2⟩ := p
  go_enter Tryz.func15, Tryz.ntmps15
  go_wp2_with fail
  refine HC.out.mono ?_
  rintro e w1 ⟨rfl, b1⟩
  go_wp2
  all_goals go_ret
  all_goals exact ⟨ret_bool (by rw [HN.out]; simp_all), b0.trans (b1.mono (by simp))⟩

set_option maxHeartbeats 1000000 in
theorem Number_any (s : ByteArray) (w : World) (hE : Env w) (hm : s.size ≤ 50000) :
    Calls Tryz.prog 21 #[.string s] w fun e w' => e = .returned (.string (numOf s)) ∧ Below w.heap.size w w' := by
  have HWB := Lib.hid (fun xs => wordsB_of (xs := xs) (s := s))
  have hwl : (wordsB s).length ≤ 50001 := by
    have h1 := congrArg List.length (wordsB_list s)
    have h2 := (words_len s.data.toList []).1
    have h3 := sizeL s
    rw [List.length_map] at h1
    omega
  have HNO := Lib.hid (show numOf s = (numsOf (wordsB s)).headD noB from rfl)
  generalize numOf s = N at *
  generalize wordsB s = ws at *
  have HT := Lib.hid (Tokens_any s w hE (by omega))
  clear hE
  go_enter Tryz.func21, Tryz.ntmps21
  go_wp2_with fail
  refine HT.out.mono ?_
  rintro e w1 ⟨u, rfl, ⟨xs, hx, hxl⟩, b1⟩
  obtain rfl := HWB.out xs hxl
  clear hxl
  go_wp2_with fail
  refine (parted_any w1.heap.size u xs w1 hx (Nat.le_refl _) (by omega)).mono ?_
  rintro e w2 ⟨nu, re, rfl, ⟨hnu, -⟩, -, b2⟩
  have b2' := b1.trans (b2.mono b1.size)
  have hl := nums_len xs
  generalize numsOf xs = L at *
  obtain ⟨a, c, rfl, h1, h2, h3⟩ := hnu
  unfold maxLen at h2
  cases L with
  | nil =>
    have HN := Lib.hid (show N = noB from HNO.out)
    simp only [List.length_nil]
    go_wp2
    go_ret
    exact ⟨ret_str HN.out.symm, b2'⟩
  | cons y ys =>
    have HN := Lib.hid (show N = y from HNO.out)
    obtain ⟨b, o, rfl, hbB, hc⟩ := h3.resolve_left (by simp)
    have hc := hc 0 y rfl
    rw [Nat.add_zero] at hc
    simp only [List.length_cons] at h1 ⊢
    have hn0 : ¬ ((ys.length : Int) + 1 = 0) := by omega
    have hl0 : (0 : Int) < ((ys.length + 1 : Nat) : Int) := by omega
    go_wp2
    go_ret
    exact ⟨ret_str HN.out.symm, b2'⟩

set_option maxHeartbeats 1000000 in
theorem Street_any (s : ByteArray) (w : World) (hE : Env w) (hm : s.size ≤ 50000) :
    Calls Tryz.prog 23 #[.string s] w fun e w' => e = .returned (.string (streetOf s)) ∧ Below w.heap.size w w' := by
  have HWB := Lib.hid (fun xs => wordsB_of (xs := xs) (s := s))
  have hwl : (wordsB s).length ≤ 50001 := by
    have h1 := congrArg List.length (wordsB_list s)
    have h2 := (words_len s.data.toList []).1
    have h3 := sizeL s
    rw [List.length_map] at h1
    omega
  have hjl : (TM.join ((restOf (wordsB s)).map (·.data.toList))).length ≤ 1000000 := by
    have h1 := join_filter_len (wordsB s) (fun x => !numB x)
    rw [wordsB_list] at h1
    have h2 := (words_len s.data.toList []).2
    have h3 := sizeL s
    simp only [List.length_nil] at h2
    show (TM.join (((wordsB s).filter fun x => !numB x).map (·.data.toList))).length ≤ _
    omega
  have HNO := Lib.hid (show streetOf s = bs (TM.join ((restOf (wordsB s)).map (·.data.toList))) from rfl)
  generalize streetOf s = N at *
  generalize wordsB s = ws at *
  have HT := Lib.hid (Tokens_any s w hE (by omega))
  clear hE
  go_enter Tryz.func23, Tryz.ntmps23
  go_wp2_with fail
  refine HT.out.mono ?_
  rintro e w1 ⟨u, rfl, ⟨xs, hx, hxl⟩, b1⟩
  obtain rfl := HWB.out xs hxl
  clear hxl
  go_wp2_with fail
  refine (parted_any w1.heap.size u xs w1 hx (Nat.le_refl _) (by omega)).mono ?_
  rintro e w2 ⟨nu, re, rfl, -, ⟨hre, -⟩, b2⟩
  have b2' := b1.trans (b2.mono b1.size)
  have hl := rest_len xs
  have hJ := Join_any w2.heap.size re (restOf xs) w2 hre (Nat.le_refl _) (by omega) (by omega)
  rw [← HNO.out] at hJ
  have HJ := Lib.hid hJ
  clear hJ
  go_wp2_with fail
  refine HJ.out.mono ?_
  rintro e w3 ⟨rfl, b3⟩
  go_wp2
  go_ret
  exact ⟨rfl, b2'.trans (b3.mono b2'.size)⟩

/-- strings.ReplaceAll of a space by nothing. -/
theorem code_fold {s : ByteArray} : Lib.replaceAll (foldB s).data.toList [32] [] = TM.noSp (TM.fold s.data.toList) := by
  unfold foldB
  rw [list_bs]
  exact replaceAll_noSp _
set_option maxHeartbeats 1000000 in
theorem Code_any (s : ByteArray) (w : World) (hE : Env w) (hm : s.size ≤ maxLen) :
    Calls Tryz.prog 17 #[.string s] w fun e w' => e = .returned (normRet (codeVal s)) ∧ Below w.heap.size w w' := by
  by_cases hv : validB s = true
  · have hFold := Fold_any s w hE hm
    rw [fold_ok hv] at hFold
    replace hFold : Calls Tryz.prog 31 #[.string s] w fun e w' => e = .returned (.tuple #[.string (foldB s), .int .i64 0]) ∧ Below w.heap.size w w' := hFold
    have HF := Lib.hid hFold
    have hfs := foldB_size hv
    have HLim := Lib.hid (code_limit hv)
    have HFin := Lib.hid (code_fine hv)
    have HCF := Lib.hid (code_fold (s := s))
    have hcs : (codeTxt s).size ≤ 64 := by
      have h1 := TM.noSp_len (TM.fold s.data.toList)
      have h2 := (valid_size hv).2
      rw [show (codeTxt s).size = (TM.noSp (TM.fold s.data.toList)).length from size_of_list _]
      omega
    have HCT := Lib.hid (show codeTxt s = bs (TM.noSp (TM.fold s.data.toList)) from rfl)
    have HE := Lib.hid hE
    clear hFold hE hv
    go_enter Tryz.func17, Tryz.ntmps17
    go_wp2_with fail
    refine HF.out.mono ?_
    rintro e w1 ⟨rfl, b1⟩
    obtain ⟨m, hmx⟩ := (HE.out.below b1 HE.out.size).maxLen
    have hRp := Tryz.strings_ReplaceAll (foldB s) ⟨#[32]⟩ ⟨#[]⟩ m w1 (by omega) hmx (by decide) (by show _ + _ * 0 ≤ _; omega)
    have hRe : (⟨(Lib.replaceAll (foldB s).data.toList (⟨#[32]⟩ : ByteArray).data.toList (⟨#[]⟩ : ByteArray).data.toList).toArray⟩ : ByteArray) = codeTxt s := by
      rw [HCT.out]
      show (⟨(Lib.replaceAll (foldB s).data.toList [32] []).toArray⟩ : ByteArray) = _
      rw [HCF.out]; rfl
    rw [hRe] at hRp
    have HRp := Lib.hid hRp
    clear hRp hRe hmx
    generalize foldB s = fs at *
    generalize codeTxt s = ct at *
    go_wp2_with fail
    refine HRp.out.mono ?_
    rintro e w2 ⟨rfl, b2⟩
    have b2' := b1.trans (b2.mono b1.size)
    go_wp2
    all_goals go_ret2
    all_goals first
      | exact ⟨by rw [HLim.out (by omega)]; rfl, b2'⟩
      | exact ⟨by rw [HFin.out (by omega)]; rfl, b2'⟩
  · have hv' : validB s = false := by simpa using hv
    have hFold := Fold_any s w hE hm
    rw [fold_no hv'] at hFold
    have HF := Lib.hid hFold
    have HN := Lib.hid (code_text hv')
    clear hFold hv hv' hE
    go_enter Tryz.func17, Tryz.ntmps17
    go_wp2_with fail
    refine HF.out.mono ?_
    rintro e w1 ⟨rfl, b1⟩
    go_wp2
    go_ret2
    exact ⟨by rw [HN.out]; rfl, b1⟩
set_option maxHeartbeats 1000000 in
theorem Normed_any (s : ByteArray) (w : World) (hE : Env w) (hm : s.size ≤ maxLen) :
    Calls Tryz.prog 19 #[.string s] w fun e w' => e = .returned (.bool (codeB s)) ∧ Below w.heap.size w w' := by
  have HC := Lib.hid (Code_any s w hE hm)
  have HN := Lib.hid (show codeB s = ((codeVal s).2 == 0 && (codeVal s).1.toList == s.toList) from rfl)
  unfold normRet at HC
  generalize codeVal s = p at *
  obtain ⟨p1, p2⟩ := p
  clear hE
  go_enter Tryz.func19, Tryz.ntmps19
  go_wp2_with fail
  refine HC.out.mono ?_
  rintro e w1 ⟨rfl, b1⟩
  go_wp2
  all_goals go_ret
  all_goals exact ⟨ret_bool (by rw [HN.out]; simp_all), b1⟩
end Go.Proofs.YthplnfblpdojkaaGreatDoor
