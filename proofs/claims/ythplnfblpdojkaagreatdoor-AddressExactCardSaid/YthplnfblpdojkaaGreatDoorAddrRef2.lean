/- Walks of the reference's Normalise, Normal, Number, Street, Code, Normed of layer 4. -/
import Derived.Test.YthplnfblpdojkaaGreatDoorAddrRef
namespace Go.Proofs.YthplnfblpdojkaaGreatDoor
open Go.RowKit
set_option linter.unusedVariables false
set_option maxRecDepth 100000

/-- What a loop over one of two rows knows: the one of which k have been replaced, the other as it was. -/
structure Mixed (base : Nat) (w3 : World) (f : ByteArray → ByteArray) (v u : Value) (xs : List ByteArray) (ys : List ByteArray) (k : Nat) (wr : World) : Prop where
  one : wr.ownsRow base 9 1 v xs.length ((mix f xs k).map Value.string)
  two : wr.ownsRow base 9 1 u ys.length (ys.map Value.string)
  under : Below base w3 wr
theorem Mixed.store {base g cap k : Nat} {w3 : World} {f : ByteArray → ByteArray} {u : Value} {xs ys : List ByteArray} {wr V : World} (h : Mixed base w3 f (.slice (some ⟨g, 0, none⟩) xs.length cap) u xs ys k wr) (hap : u.ownBlock = none ∨ u.ownBlock ≠ some g)
    (hb : Below wr.heap.size wr V) (hbase : base ≤ wr.heap.size) (hk : k < xs.length) : Mixed base w3 f (.slice (some ⟨g, 0, none⟩) xs.length cap) u xs ys (k + 1) (V.setCell ⟨g, k, none⟩ (.string (f xs[k]))) := by
  have h1 := owns_below h.one hb
  have h2 := owns_below h.two hb
  obtain ⟨s1, s2⟩ := h1.stored k (.string (f xs[k]))
  have hg : base ≤ g := (owns_at h.one rfl).1
  refine ⟨?_, h2.kept s2 hap, ?_⟩
  · rw [← mix_set f xs k hk, List.map_set]
    exact s1
  · exact (h.under.trans (hb.mono hbase)).setCell (by show base ≤ g; exact hg) _
theorem Mixed.drew {base k : Nat} {w3 : World} {f : ByteArray → ByteArray} {v u : Value} {xs ys : List ByteArray} {wr : World} (h : Mixed base w3 f v u xs ys k wr) : Mixed base w3 f v u xs ys k wr.drew :=
  ⟨owns_below h.one (below_drew (Below.refl _ _)), owns_below h.two (below_drew (Below.refl _ _)), below_drew h.under⟩
theorem Mixed.turn {base : Nat} {w3 : World} {f f' : ByteArray → ByteArray} {v u : Value} {xs ys : List ByteArray} {wr : World} (h : Mixed base w3 f v u xs ys xs.length wr) : Mixed base w3 f' u v ys (xs.map f) 0 wr := by
  refine ⟨by rw [mix_zero]; exact h.two, ?_, h.under⟩
  have := h.one
  rw [mix_all] at this
  rw [List.length_map]
  exact this
theorem Mixed.done {base : Nat} {w3 : World} {f : ByteArray → ByteArray} {v u : Value} {xs ys : List ByteArray} {wr : World} (h : Mixed base w3 f v u xs ys xs.length wr) : wr.ownsRow base 9 1 v (xs.map f).length ((xs.map f).map Value.string) := by
  have := h.one
  rw [mix_all] at this
  rw [List.length_map]
  exact this
theorem rtrim_trim {x : ByteArray} (h : numB x = true) : rtrimB x = trimB x := by
  unfold rtrimB trimB
  rw [TM.rtrim_eq _ h]
theorem Mixed.at_ {base g cap k : Nat} {w3 : World} {f : ByteArray → ByteArray} {u : Value} {xs ys : List ByteArray} {wr : World} (h : Mixed base w3 f (.slice (some ⟨g, 0, none⟩) xs.length cap) u xs ys k wr) (hk : k < xs.length) :
    wr.cell? ⟨g, k, none⟩ = some (.string xs[k]) ∧ wr.frozen? ⟨g, k, none⟩ = false := by
  refine ⟨?_, h.one.frozenAt k⟩
  rw [h.one.cellAt k (by omega), List.getElem?_map, mix_at f xs k hk]
  rfl

set_option maxHeartbeats 8000000 in
theorem radrNormalise_any (B : Nat) (v : Value) (r : RL) (s : ByteArray) (w : World) (h : IsRules B w v r) (hB : B ≤ w.heap.size) (hm : s.size ≤ maxLen) :
    Calls Tryz.prog 14 #[v, .string s] w fun e w' => e = .returned (normRet (adrVal r s)) ∧ Below w.heap.size w w' := by
  have HR := Lib.hid h
  obtain ⟨tv, nv, sv, rfl, -, -, hsv⟩ := h
  have HSV := Lib.hid hsv
  clear hsv
  have b0 : Below w.heap.size w (w.alloc (.cells #[tv, nv, sv] 26)) := (Below.refl _ w).alloc (Nat.le_refl _) _
  have hCk := rCheck_any B _ r _ (HR.out.keep (b0.mono hB)) (by simp; omega)
  obtain ⟨c, hc⟩ : ∃ c, checkV r = c := ⟨_, rfl⟩
  rw [hc] at hCk
  have HCk := Lib.hid hCk
  have HC := Lib.hid hc
  clear hc hCk
  by_cases h0 : c = 0
  · subst h0
    by_cases hv : validB s = true
    · have HV := Lib.hid hv
      have hFold := rFold_any s
      rw [fold_ok hv] at hFold
      replace hFold : ∀ (w : World), s.size ≤ maxLen → Calls Tryz.prog 40 #[.string s] w fun e w' => e = .returned (.tuple #[.string (foldB s), .int .i64 0]) ∧ Below w.heap.size w w' := hFold
      have HF := Lib.hid hFold
      clear hFold
      have hwc := words_count hv
      have HWF := Lib.hid (words_fine hv)
      have HTF := Lib.hid (toks_fine (check_zero HC.out) hv)
      have hfs := foldB_size hv
      have htl : (adrToks r (wordsB (foldB s))).length ≤ 65 := by rw [toks_len]; exact words_count hv
      have hts := adr_bounds (check_zero HC.out) hv
      have HLim := Lib.hid (adr_limit s HC.out HV.out)
      have HFin := Lib.hid (adr_fine s HC.out HV.out)
      have HTX := Lib.hid (show adrTxt r s = joinOf (adrToks r (wordsB (foldB s))) from rfl)
      have HTK := Lib.hid (show adrToks r (wordsB (foldB s)) = (restOf (wordsB (foldB s))).map (canonB r.streets) ++ (numsOf (wordsB (foldB s))).map trimB from rfl)
      have HWB := Lib.hid (fun xs => wordsB_of (xs := xs) (s := foldB s))
      clear hv
      generalize adrTxt r s = X at *
      generalize adrToks r (wordsB (foldB s)) = T at *
      generalize wordsB (foldB s) = ws at *
      generalize foldB s = fs at *
      go_enter Tryz.func14, Tryz.ntmps14
      go_wp2_with fail
      refine HCk.out.mono ?_
      rintro e w1 ⟨rfl, b1⟩
      have c1 := b1.mono (B' := w.heap.size + 1) (by simp)
      have b1' := b0.trans (c1.mono (by omega))
      go_wp2_with fail
      refine (HF.out w1 hm).mono ?_
      rintro e w2 ⟨rfl, b2⟩
      have c2 := c1.trans (b2.mono (by have := c1.size; simpa using this))
      have b2' := b0.trans (c2.mono (by omega))
      go_wp2_with fail
      refine (rTokens_any fs w2 (by omega)).mono ?_
      rintro e w3 ⟨u, rfl, ⟨xs, hx, hxl⟩, b3⟩
      obtain rfl := HWB.out xs hxl
      clear hxl
      have c3 := c2.trans (b3.mono (by have := c2.size; simpa using this))
      have b3' := b0.trans (c3.mono (by omega))
      have hw3 : w.heap.size + 1 ≤ w3.heap.size := by have := c3.size; simpa using this
      go_wp2_with fail
      refine (rparts_any w3.heap.size u xs w3 hx (Nat.le_refl _) (by omega)).mono ?_
      rintro e w4 ⟨av, bv, rfl, hP, b4⟩
      clear hx
      have hnl := nums_len xs
      have hrl := rest_len xs
      have hap1 : bv.ownBlock = none ∨ bv.ownBlock ≠ av.ownBlock := rows_apart hP.two hP.one hP.n2 hP.n1 (num_rest _ _)
      have hap2 : av.ownBlock = none ∨ av.ownBlock ≠ bv.ownBlock := rows_apart hP.one hP.two hP.n1 hP.n2 (fun x hx y hy e => num_rest _ _ y hy x hx e.symm)
      obtain ⟨aa, ac, hav, ha1, ha2, -⟩ := IsTexts.of_own hP.one
      obtain ⟨ba, bc, hbv, hb1, hb2, -⟩ := IsTexts.of_own hP.two
      have hP1 := proper_own hP.one
      have hP2 := proper_own hP.two
      subst hav hbv
      have hM0 : Mixed w3.heap.size w3 (canonB r.streets) (.slice aa (restOf xs).length ac) (.slice ba (numsOf xs).length bc) (restOf xs) (numsOf xs) 0 w4 := ⟨by rw [mix_zero]; exact hP.one, hP.two, b4⟩
      have HAP1 := Lib.hid hap1
      have HAP2 := Lib.hid hap2
      have HP2 := Lib.hid hP2
      have HM0 := Lib.hid hM0
      have HXS := Lib.hid (show ∀ x ∈ numsOf xs, x.size ≤ 64 ∧ numB x = true from fun x hx => ⟨(HWF.out x (List.mem_filter.1 hx).1).2.2, (List.mem_filter.1 hx).2⟩)
      clear hap1 hap2 hP hM0 hP1 hP2
      unfold maxLen at ha2 hb2
      generalize restOf xs = re at *
      generalize numsOf xs = nu at *
      go_wp2_with fail
      go_loopw [11] (fun i wr => ∃ (k : Nat), k ≤ re.length ∧ i = .int .i64 k ∧ Mixed w3.heap.size w3 (canonB r.streets) (.slice aa re.length ac) (.slice ba nu.length bc) re nu k wr) (fun i _ => re.length - (intOf i).toNat)
      case atStart => exact ⟨0, by omega, rfl, HM0.out⟩
      case round =>
        obtain ⟨k, hk, rfl, hM⟩ := hrel
        have hszr := hM.under.size
        have cr := c3.trans (hM.under.mono hw3)
        have br := b0.trans (cr.mono (by omega))
        by_cases hlt : k < re.length
        · obtain ⟨g, cap, he⟩ := owns_some hM.one (by omega)
          simp only [Value.slice.injEq, true_and] at he
          obtain ⟨rfl, rfl⟩ := he
          obtain ⟨hc, hf⟩ := hM.at_ hlt
          have HM := Lib.hid hM
          clear hM
          obtain ⟨g0, g1, g2⟩ := box_cells cr
          have HRp := Lib.hid (fun (V : World) (hV : Below wr.heap.size wr V) => rReplace_any B sv r.streets re[k] V (HSV.out.keep ((br.trans (hV.mono br.size)).mono hB)))
          have hi0 : (0 : Int) ≤ (k : Int) := by omega
          have hi1 : (k : Int) < (re.length : Int) := by omega
          go_wp2_with fail
          go_region_with (go_at_call 43; refine (HRp.out _ (below_drew (Below.refl _ _))).mono ?_; rintro e w' ⟨rfl, rfl⟩)
          all_goals (
            go_wp2
            exact ⟨⟨k + 1, by omega, by go_num, (HM.out.store HAP1.out (Below.refl _ _) hszr hlt).drew⟩, by simp [intOf]; omega⟩)
        · obtain rfl : k = re.length := by omega
          have hT := hM.turn (f' := trimB)
          have HT := Lib.hid hT
          have hML : (re.map (canonB r.streets)).length = re.length := List.length_map _
          have HML := Lib.hid hML
          clear hM hT hML
          generalize re.map (canonB r.streets) = M at *
          go_wp2
          go_loopw [12] (fun i wr2 => ∃ (k : Nat), k ≤ nu.length ∧ i = .int .i64 k ∧ Mixed w3.heap.size w3 trimB (.slice ba nu.length bc) (.slice aa re.length ac) nu M k wr2) (fun i _ => nu.length - (intOf i).toNat)
          case atStart => exact ⟨0, by omega, rfl, HT.out⟩
          case round =>
            obtain ⟨k, hk, rfl, hM⟩ := hrel
            have hszr2 := hM.under.size
            by_cases hlt : k < nu.length
            · obtain ⟨g, cap, he⟩ := owns_some hM.one (by omega)
              simp only [Value.slice.injEq, true_and] at he
              obtain ⟨rfl, rfl⟩ := he
              obtain ⟨hc, hf⟩ := hM.at_ hlt
              have HM := Lib.hid hM
              clear hM
              obtain ⟨hxz, hxn⟩ := HXS.out nu[k] (List.getElem_mem hlt)
              have hTr := rtrimmed_any nu[k]
              rw [rtrim_trim hxn] at hTr
              have HTr := Lib.hid hTr
              clear hTr hxn
              have hi0 : (0 : Int) ≤ (k : Int) := by omega
              have hi1 : (k : Int) < (nu.length : Int) := by omega
              go_wp2_with (go_at_call 44; refine (HTr.out _ (by omega)).mono ?_; rintro e w' ⟨rfl, rfl⟩)
              exact ⟨⟨k + 1, by omega, by go_num, HM.out.store HAP2.out (Below.refl _ _) hszr2 hlt⟩, by simp [intOf]; omega⟩
            · obtain rfl : k = nu.length := by omega
              have h1 := hM.two
              have h2 := hM.done
              have hNL : (nu.map trimB).length = nu.length := List.length_map _
              have HNL := Lib.hid hNL
              have hT' := HTK.out
              have hbr := b3'.trans (hM.under.mono b3'.size)
              clear hM
              generalize nu.map trimB = N at *
              have hl1 : M.length + N.length ≤ 1000 := by rw [HML.out, hNL]; omega
              have hX2 := IsTexts.of_own h2
              have hP2' := proper_own h2
              rw [HML.out] at h1
              have H1 := Lib.hid (show wr.ownsRow w3.heap.size 9 1 (.slice aa re.length ac) M.length (M.map Value.string) from by rw [HML.out]; exact h1)
              have HX2 := Lib.hid hX2
              have HP2' := Lib.hid hP2'
              have HT' := Lib.hid hT'
              clear h1 h2 hNL hX2 hP2' hT'
              go_wp2_with (at_builtin; refine wpList_append_texts rfl _ _ rfl w3.heap.size hszr2 _ M rfl H1.out _ _ N rfl HX2.out HP2'.out hl1 ?_)
              intro v' w5 hown' hgrow
              have hown2 : w5.ownsRow w3.heap.size 9 1 v' T.length (T.map Value.string) := by rw [HT'.out, List.length_append, List.map_append]; first | exact hown' | (rw [List.length_append, List.map_append] at hown'; exact hown')
              have b5 : Below w.heap.size w w5 := hbr.grown hgrow hbr.size (fun g hg => Nat.le_trans b3'.size ((H1.out.lt g hg).1))
              clear hown'
              have hu := IsTexts.of_own hown2
              have hJ := rJoin_any w5.heap.size _ T w5 hu (by omega) (fun x hx => Nat.le_trans (HTF.out x hx).2.2 (by omega))
              replace hJ : Calls Tryz.prog 45 #[_] w5 fun e w' => e = .returned (.string (joinOf T)) ∧ w5 = w' := hJ
              rw [← HTX.out] at hJ
              have HJ := Lib.hid hJ
              clear hJ hown2
              obtain ⟨ua, uc, rfl, -, -, -⟩ := hu
              go_wp2_with fail
              refine HJ.out.mono ?_
              rintro e w6 ⟨rfl, rfl⟩
              go_wp2
              all_goals go_ret2
              all_goals first
                | exact ⟨by rw [HLim.out (by omega)]; rfl, b5⟩
                | exact ⟨by rw [HFin.out (by omega)]; rfl, b5⟩
    · have hv' : validB s = false := by simpa using hv
      have hFold := rFold_any s
      rw [fold_no hv'] at hFold
      have HF := Lib.hid hFold
      have HN := Lib.hid (adr_text s HC.out hv')
      clear hFold hv hv'
      go_enter Tryz.func14, Tryz.ntmps14
      go_wp2_with fail
      refine HCk.out.mono ?_
      rintro e w1 ⟨rfl, b1⟩
      have b1' := b0.trans (b1.mono (by simp))
      go_wp2_with fail
      refine (HF.out w1 hm).mono ?_
      rintro e w2 ⟨rfl, b2⟩
      have b2' := b1'.trans (b2.mono b1'.size)
      go_wp2
      go_ret2
      exact ⟨by rw [HN.out]; rfl, b2'⟩
  · have HN := Lib.hid (adr_check s HC.out h0)
    have t0 : (c != 0) = true := by simp [h0]
    clear h0
    go_enter Tryz.func14, Tryz.ntmps14
    go_wp2_with fail
    refine HCk.out.mono ?_
    rintro e w1 ⟨rfl, b1⟩
    go_wp2
    go_ret2
    exact ⟨by rw [HN.out]; rfl, b0.trans (b1.mono (by simp))⟩
end Go.Proofs.YthplnfblpdojkaaGreatDoor
