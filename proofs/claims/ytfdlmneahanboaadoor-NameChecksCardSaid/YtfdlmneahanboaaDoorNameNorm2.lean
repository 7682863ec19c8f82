/- Walks of layer 2's Normalise and Normal. -/
import Derived.Test.YtfdlmneahanboaaDoorNameNorm
namespace Go.Proofs.YtfdlmneahanboaaDoor
open Go.RowKit
set_option linter.unusedVariables false

/-- What Normalise returns. -/
def normRet (p : ByteArray × Int) : Value := .tuple #[.string p.1, .int .i64 p.2]
theorem norm_check {r : RL} (s : ByteArray) {c : Int} (h : checkV r = c) (hc : c ≠ 0) : normVal r s = (noB, c) := by
  unfold normVal; rw [h, if_pos hc]
theorem norm_text {r : RL} (s : ByteArray) (h : checkV r = 0) (hv : validB s = false) : normVal r s = (noB, 3) := by
  unfold normVal; rw [h, if_neg (by simp), if_pos hv]
theorem norm_limit {r : RL} (s : ByteArray) (h : checkV r = 0) (hv : validB s = true) (hl : 6 < (normToks r s).length ∨ 64 < (normTxt r s).size) : normVal r s = (noB, 1) := by
  unfold normVal; rw [h, if_neg (by simp), if_neg (by rw [hv]; simp), if_pos hl]
theorem norm_fine {r : RL} (s : ByteArray) (h : checkV r = 0) (hv : validB s = true) (hl : ¬ (6 < (normToks r s).length ∨ 64 < (normTxt r s).size)) : normVal r s = (normTxt r s, 0) := by
  unfold normVal; rw [h, if_neg (by simp), if_neg (by rw [hv]; simp), if_neg hl]
theorem valid_size {s : ByteArray} (h : validB s = true) : s.size ≤ 64 ∧ (TM.fold s.data.toList).length ≤ 64 := by
  unfold validB TM.valid at h
  simp only [Bool.and_eq_true, decide_eq_true_eq] at h
  have h1 : s.data.toList.length = s.size := by simp
  have h2 := spell_len s.data.toList
  have h3 := (words_len (TM.spell s.data.toList) []).2
  simp only [List.length_nil, Nat.zero_add] at h3
  unfold TM.fold
  omega
theorem toks_bounds {r : RL} (hr : rightB r = true) (s : ByteArray) (hv : validB s = true) : (normToks r s).length ≤ 65 ∧ (∀ x ∈ normToks r s, x.size ≤ 64) ∧ (normTxt r s).size ≤ 5000 := by
  have hs := (valid_size hv).2
  have h1 := (words_len (TM.fold s.data.toList) []).1
  have h2 := left_le r (TM.words [] (TM.fold s.data.toList))
  have h3 : (normToks r s).length ≤ 65 := by unfold normToks; omega
  have h4 : ∀ x ∈ normToks r s, x.size ≤ 64 := left_size hr _ (fun t ht => by
    have := words_each _ _ t ht
    simp at this; omega)
  refine ⟨h3, h4, ?_⟩
  unfold normTxt
  rw [show (bs (TM.join ((normToks r s).map (·.data.toList)))).size = (TM.join ((normToks r s).map (·.data.toList))).length from size_of_list _]
  have h5 := join_len ((normToks r s).map (·.data.toList)) 64 (fun l hl => by
    obtain ⟨x, hx, rfl⟩ := List.mem_map.1 hl
    have := h4 x hx
    simpa using this)
  rw [List.length_map] at h5
  have : (normToks r s).length * (64 + 1) ≤ 65 * 65 := Nat.mul_le_mul_right 65 h3
  omega
theorem fold_ok {s : ByteArray} (h : validB s = true) : foldVal s = .tuple #[.string (bs (TM.fold s.data.toList)), .int .i64 0] := by unfold foldVal; rw [h]; rfl
theorem fold_no {s : ByteArray} (h : validB s = false) : foldVal s = .tuple #[.string ⟨#[]⟩, .int .i64 3] := by unfold foldVal; rw [h]; rfl

set_option maxRecDepth 100000 in
set_option maxHeartbeats 2000000 in
theorem Normalise_any (B : Nat) (v : Value) (r : RL) (s : ByteArray) (w : World) (hE : Env w) (h : IsRules B w v r) (hB : B ≤ w.heap.size) (hm : s.size ≤ maxLen) :
    Calls Tryd.prog 19 #[v, .string s] w fun e w' => e = .returned (normRet (normVal r s)) ∧ Below w.heap.size w w' := by
  have HR := Lib.hid h
  obtain ⟨tv, nv, sv, rfl, -, -, -⟩ := h
  have b0 : Below w.heap.size w (w.alloc (.cells #[tv, nv, sv] 26)) := (Below.refl _ w).alloc (Nat.le_refl _) _
  have HE := Lib.hid hE
  clear hE
  have hCk := Check_any B _ r _ (HR.out.keep (b0.mono hB)) (by simp; omega)
  obtain ⟨c, hc⟩ : ∃ c, checkV r = c := ⟨_, rfl⟩
  rw [hc] at hCk
  have HCk := Lib.hid hCk
  have HC := Lib.hid hc
  clear hc hCk
  by_cases h0 : c = 0
  · subst h0
    by_cases hv : validB s = true
    · have HV := Lib.hid hv
      have hFold := Fold_any s
      rw [fold_ok hv] at hFold
      have HF := Lib.hid hFold
      clear hFold
      obtain ⟨q1, q2, q3⟩ := toks_bounds (check_zero HC.out) s hv
      have q4 := (valid_size hv).2
      clear hv q2
      go_enter Tryd.func19, Tryd.ntmps19
      go_wp2_with fail
      refine HCk.out.mono ?_
      rintro e w1 ⟨rfl, b1⟩
      have c1 := b1.mono (B' := w.heap.size + 1) (by simp)
      have b1' := b0.trans (c1.mono (by omega))
      go_wp2_with fail
      refine (HF.out w1 (HE.out.below b1' HE.out.size) hm).mono ?_
      rintro e w2 ⟨rfl, b2⟩
      have c2 := c1.trans (b2.mono (by have := c1.size; simpa using this))
      have b2' := b0.trans (c2.mono (by omega))
      obtain ⟨g0, g1, g2⟩ := box_cells c2
      go_wp2_with fail
      clear g0 g1 g2
      refine (normalTokens_any B _ r (bs (TM.fold s.data.toList)) w2 (HE.out.below b2' HE.out.size) (HR.out.keep (b2'.mono hB)) (Nat.le_trans hB b2'.size) (by rw [show (bs (TM.fold s.data.toList)).size = (TM.fold s.data.toList).length from size_of_list _]; omega)).mono ?_
      rintro e w3 ⟨u, rfl, hu, b3⟩
      have b3' := b2'.trans (b3.mono b2'.size)
      rw [list_bs] at hu
      replace hu : IsTexts w3.heap.size w3 u (normToks r s) := hu
      have hJ := Join_any w3.heap.size u (normToks r s) w3 hu (Nat.le_refl _) (by omega) (by have := q3; unfold normTxt at this; rw [show (bs (TM.join ((normToks r s).map (·.data.toList)))).size = (TM.join ((normToks r s).map (·.data.toList))).length from size_of_list _] at this; omega)
      replace hJ : Calls Tryd.prog 44 #[u] w3 fun e w' => e = .returned (.string (normTxt r s)) ∧ Below w3.heap.size w3 w' := hJ
      have HJ := Lib.hid hJ
      clear hJ
      have HU := Lib.hid hu
      obtain ⟨ua, uc, rfl, -, -, -⟩ := hu
      have HL := Lib.hid (norm_limit s HC.out HV.out)
      have HN := Lib.hid (norm_fine s HC.out HV.out)
      go_wp2_with fail
      refine HJ.out.mono ?_
      rintro e w4 ⟨rfl, b4⟩
      have b4' := b3'.trans (b4.mono b3'.size)
      go_wp2
      all_goals go_ret2
      all_goals first
        | exact ⟨by rw [HL.out (by omega)]; rfl, b4'⟩
        | exact ⟨by rw [HN.out (by omega)]; rfl, b4'⟩
    · have hv' : validB s = false := by simpa using hv
      have hFold := Fold_any s
      rw [fold_no hv'] at hFold
      have HF := Lib.hid hFold
      have HN := Lib.hid (norm_text s HC.out hv')
      clear hFold hv hv'
      go_enter Tryd.func19, Tryd.ntmps19
      go_wp2_with fail
      refine HCk.out.mono ?_
      rintro e w1 ⟨rfl, b1⟩
      have b1' := b0.trans (b1.mono (by simp))
      go_wp2_with fail
      refine (HF.out w1 (HE.out.below b1' HE.out.size) hm).mono ?_
      rintro e w2 ⟨rfl, b2⟩
      have b2' := b1'.trans (b2.mono b1'.size)
      go_wp2
      go_ret2
      exact ⟨by rw [HN.out]; rfl, b2'⟩
  · have HN := Lib.hid (norm_check s HC.out h0)
    have t0 : (c != 0) = true := by simp [h0]
    clear h0
    go_enter Tryd.func19, Tryd.ntmps19
    go_wp2_with fail
    refine HCk.out.mono ?_
    rintro e w1 ⟨rfl, b1⟩
    go_wp2
    go_ret2
    exact ⟨by rw [HN.out]; rfl, b0.trans (b1.mono (by simp))⟩

set_option maxHeartbeats 1000000 in
theorem Normal_any (B : Nat) (v : Value) (r : RL) (s : ByteArray) (w : World) (hE : Env w) (h : IsRules B w v r) (hB : B ≤ w.heap.size) (hm : s.size ≤ maxLen) :
    Calls Tryd.prog 21 #[v, .string s] w fun e w' => e = .returned (.bool (normalB r s)) ∧ Below w.heap.size w w' := by
  have HR := Lib.hid h
  obtain ⟨tv, nv, sv, rfl, -, -, -⟩ := h
  have b0 : Below w.heap.size w (w.alloc (.cells #[tv, nv, sv] 26)) := (Below.refl _ w).alloc (Nat.le_refl _) _
  have HC := Lib.hid (Normalise_any B _ r s _ (hE.alloc (.cells #[tv, nv, sv] 26)) (HR.out.keep (b0.mono hB)) (by simp; omega) hm)
  have HN := Lib.hid (show normalB r s = ((normVal r s).2 == 0 && (normVal r s).1.toList == s.toList) from rfl)
  unfold normRet at HC
  generalize normVal r s = p at *
  obtain ⟨p1, p2⟩ := p
  go_enter Tryd.func21, Tryd.ntmps21
  go_wp2_with fail
  refine HC.out.mono ?_
  rintro e w1 ⟨rfl, b1⟩
  go_wp2
  all_goals go_ret
  all_goals exact ⟨ret_bool (by rw [HN.out]; simp_all), b0.trans (b1.mono (by simp))⟩

set_option maxRecDepth 100000 in
set_option maxHeartbeats 4000000 in
theorem rNormalise_any (B : Nat) (v : Value) (r : RL) (s : ByteArray) (w : World) (h : IsRules B w v r) (hB : B ≤ w.heap.size) (hm : s.size ≤ maxLen) :
    Calls Tryd.prog 20 #[v, .string s] w fun e w' => e = .returned (normRet (normVal r s)) ∧ Below w.heap.size w w' := by
  obtain ⟨i0, hi0, hz0, hz1, hz2⟩ := info_parts strInfo
  have HR := Lib.hid h
  obtain ⟨tv, nv, sv, rfl, -, -, -⟩ := h
  have b0 : Below w.heap.size w (w.alloc (.cells #[tv, nv, sv] 26)) := (Below.refl _ w).alloc (Nat.le_refl _) _
  have hCk := rCheck_any B _ r _ (HR.out.keep (b0.mono hB)) (by simp; omega)
  obtain ⟨c, hc⟩ : ∃ c, checkV r = c := ⟨_, rfl⟩
  rw [hc] at hCk
  have HCk := Lib.hid hCk
  have HC := Lib.hid hc
  clear hc hCk
  by_cases h0 : c = 0
  · subst h0
    by_cases hv : validB s = true
    · have HV := Lib.hid hv
      have hFold := rFold_any s
      rw [fold_ok hv] at hFold
      have HF := Lib.hid hFold
      clear hFold
      obtain ⟨q1, q2, q3⟩ := toks_bounds (check_zero HC.out) s hv
      have Q2 := Lib.hid q2
      have q4 := (valid_size hv).2
      have hfz : (bs (TM.fold s.data.toList)).size ≤ 64 := by rw [show (bs (TM.fold s.data.toList)).size = (TM.fold s.data.toList).length from size_of_list _]; exact q4
      clear hv q2
      have HL := Lib.hid (norm_limit s HC.out HV.out)
      have HN := Lib.hid (norm_fine s HC.out HV.out)
      go_enter Tryd.func20, Tryd.ntmps20
      go_wp2_with fail
      refine HCk.out.mono ?_
      rintro e w1 ⟨rfl, b1⟩
      have c1 := b1.mono (B' := w.heap.size + 1) (by simp)
      have b1' := b0.trans (c1.mono (by omega))
      go_wp2_with fail
      refine (HF.out w1 hm).mono ?_
      rintro e w2 ⟨rfl, b2⟩
      have c2 := c1.trans (b2.mono (by have := c1.size; simpa using this))
      have b2' := b0.trans (c2.mono (by omega))
      go_wp2_with fail
      refine (rTokens_any (bs (TM.fold s.data.toList)) w2 (by omega)).mono ?_
      rintro e W1 ⟨u, rfl, ⟨xs, hx, hxl⟩, b3⟩
      rw [list_bs] at hxl
      have hlen : xs.length ≤ 65 := by
        have h1 := congrArg List.length hxl
        have h2 := (words_len (TM.fold s.data.toList) []).1
        simp only [List.length_map] at h1
        omega
      have hsize : ∀ k, ∀ hk : k < xs.length, xs[k].size ≤ 64 := fun k hk => by
        have hm : xs[k].data.toList ∈ TM.words [] (TM.fold s.data.toList) := by rw [← hxl]; exact List.mem_map.2 ⟨xs[k], List.getElem_mem hk, rfl⟩
        have h2 := words_each _ _ _ hm
        have h4 : xs[k].data.toList.length = xs[k].size := by simp
        simp at h2; omega
      have HSz := Lib.hid hsize
      clear hsize
      have HXL := Lib.hid hxl
      clear hxl
      have C1 : Below (w.heap.size + 1) (w.alloc (.cells #[tv, nv, sv] 26)) W1 := c2.trans (b3.mono (by have := c2.size; simpa using this))
      have hW1 : w.heap.size < W1.heap.size := by have := C1.size; simp at this; omega
      obtain ⟨a, c, rfl, x1, x2, hxc⟩ := hx
      unfold maxLen at x2
      have HX := Lib.hid hxc
      clear hxc
      go_wp2
      go_loopw [10, 11] (fun v i wr => ∃ (k : Nat), k ≤ xs.length ∧ i = .int .i64 k ∧ wr.ownsRow W1.heap.size 9 1 v (leftB r ((xs.map (·.data.toList)).take k)).length ((leftB r ((xs.map (·.data.toList)).take k)).map Value.string) ∧ Below W1.heap.size W1 wr) (fun _ i _ => xs.length - (intOf i).toNat)
      case atStart => exact ⟨0, by omega, rfl, World.ownsRow_nil _ _ _ _, Below.refl _ _⟩
      case round =>
        obtain ⟨k, hk, rfl, hown, hbw⟩ := hrel
        have cr : Below (w.heap.size + 1) (w.alloc (.cells #[tv, nv, sv] 26)) wr := C1.trans (hbw.mono (by omega))
        have br : Below w.heap.size w wr := b0.trans (cr.mono (by omega))
        have hwr := hbw.size
        have HW := Lib.hid hown
        clear hown
        by_cases hlt : k < xs.length
        · obtain ⟨b, o, rfl, hbB, hc⟩ := HX.out.resolve_left (by intro e; rw [e] at hlt; exact absurd hlt (Nat.not_lt_zero _))
          have hc := (hbw.cell (p := ⟨b, o + k, none⟩) hbB).trans (hc k _ (List.getElem?_eq_getElem hlt))
          have hz := HSz.out k hlt
          have HT := Lib.hid (left_take r (xs.map (·.data.toList)) k (by simpa using hlt))
          have hll : (leftB r ((xs.map (·.data.toList)).take k)).length ≤ k := Nat.le_trans (left_le _ _) (List.length_take_le _ _)
          obtain ⟨L, hL⟩ : ∃ L, lettersOf xs[k].data.toList = L := ⟨_, rfl⟩
          have HLt := Lib.hid hL
          clear hL
          have hCL := rLetters_any xs[k] wr (by omega)
          rw [show (⟨(xs[k].data.toList.filter TM.lower).toArray⟩ : ByteArray) = L from HLt.out] at hCL
          have HCL := Lib.hid hCL
          clear hCL
          obtain ⟨g0, g1, g2⟩ := box_cells cr
          go_wp2_with fail
          refine HCL.out.mono ?_
          rintro e w1' ⟨rfl, rfl⟩
          cases he : L.toList.isEmpty
          · have HEm := Lib.hid he
            have hne : L.toList ≠ [] := by intro e; rw [e] at he; cases he
            have hneb : (!L.toList.isEmpty) = true := by rw [he]; rfl
            go_wp2_with fail
            refine (rDropped_any B _ r L wr (HR.out.keep (br.mono hB)) (Nat.le_trans hB br.size)).mono ?_
            rintro e w2' ⟨rfl, b3⟩
            have bw2 := hbw.trans (b3.mono hwr)
            have cw2 := cr.trans (b3.mono (by have := cr.size; simpa using this))
            have bb2 : Below w.heap.size w w2' := b0.trans (cw2.mono (by omega))
            clear g0 g1 g2
            obtain ⟨g0, g1, g2⟩ := box_cells cw2
            have HW2 := Lib.hid (owns_below HW.out b3)
            cases hd : hasB r.titles L
            · have HDr := Lib.hid hd
              clear hd
              go_wp2_with fail
              refine (rCanonical_any B _ r L w2' (HR.out.keep (bb2.mono hB)) (Nat.le_trans hB bb2.size)).mono ?_
              rintro e w3 ⟨rfl, b4⟩
              have bw3 := bw2.trans (b4.mono bw2.size)
              have hw3 := bw3.size
              have HW3 := Lib.hid (owns_below HW2.out b4)
              clear g0 g1 g2
              generalize hcn : canonB r.nicks L = C at *
              have HCn := Lib.hid hcn
              clear hcn
              go_wp2_with (at_builtin; refine wpList_append_own _ rfl _ _ 23 rfl W1.heap.size 9 i0 (.string ⟨#[]⟩) 1 16 Tryd.underlying23 hi0 hz0 hz1 hz2 rfl (by decide) _ _ _ rfl (HW3.out.alloc _) ⟨w3.heap.size, 0, none⟩ 1 1 [.string C] rfl rfl ?c1 ?c2 ?c3 ?c4 ?c5 ?_)
              case c1 =>
                intro j u hj
                match j, hj with
                | 0, hj => simp at hj; subst hj; simp [Addr.add]
              case c2 => intro u hu; simp at hu; subst hu; rfl
              case c3 => unfold maxLen; omega
              case c4 => omega
              case c5 => first | omega | (simp; omega)
              · intro v' w4 hown' hgrow _
                go_wp2
                refine ⟨⟨k + 1, by omega, by go_num, ?_, ?_⟩, by simp [intOf]; omega⟩
                · rw [HT.out, left1_some r _ L (by rw [List.getElem_map]; exact HLt.out) HEm.out HDr.out, HCn.out]
                  simpa using hown'
                · exact (bw3.alloc (by omega) _).grown hgrow (by simp; omega) (fun g hg => (HW3.out.lt g hg).1)
            · have HDr := Lib.hid hd
              clear hd g0 g1 g2
              go_wp2
              refine ⟨⟨k + 1, by omega, by go_num, ?_, bw2⟩, by simp [intOf]; omega⟩
              rw [HT.out, left1_drop r _ L (by rw [List.getElem_map]; exact HLt.out) HDr.out]
              simpa using HW2.out
          · have HEm := Lib.hid he
            have hne : L.toList = [] := by simpa using he
            have hneb : (!L.toList.isEmpty) = false := by rw [he]; rfl
            clear g0 g1 g2
            go_wp2
            refine ⟨⟨k + 1, by omega, by go_num, ?_, hbw⟩, by simp [intOf]; omega⟩
            rw [HT.out, left1_none r _ L (by rw [List.getElem_map]; exact HLt.out) HEm.out]
            simpa using HW.out
        · have hu := HW.out
          rw [List.take_of_length_le (by simp; omega), HXL.out] at hu
          replace hu : IsTexts wr.heap.size wr _ (normToks r s) := IsTexts.of_own hu
          have hJ := rJoin_any wr.heap.size _ (normToks r s) wr hu (by omega) (fun x hx => Nat.le_trans (Q2.out x hx) (by omega))
          replace hJ : Calls Tryd.prog 29 #[_] wr fun e w' => e = .returned (.string (normTxt r s)) ∧ wr = w' := hJ
          have HJ := Lib.hid hJ
          clear hJ
          obtain ⟨ua, uc, rfl, -, -, -⟩ := hu
          go_wp2_with fail
          refine HJ.out.mono ?_
          rintro e w4 ⟨rfl, rfl⟩
          go_wp2
          all_goals go_ret2
          all_goals first
            | exact ⟨by rw [HL.out (by omega)]; rfl, br⟩
            | exact ⟨by rw [HN.out (by omega)]; rfl, br⟩
    · have hv' : validB s = false := by simpa using hv
      have hFold := rFold_any s
      rw [fold_no hv'] at hFold
      have HF := Lib.hid hFold
      have HN := Lib.hid (norm_text s HC.out hv')
      clear hFold hv hv'
      go_enter Tryd.func20, Tryd.ntmps20
      go_wp2_with fail
      refine HCk.out.mono ?_
      rintro e w1 ⟨rfl, b1⟩
      have b1' := b0.trans (b1.mono (by simp))
      go_wp2_with fail
      refine (HF.out w1 hm).mono ?_
      rintro e w2 ⟨rfl, b2⟩
      have b2' := b1'.trans (b2.mono b1'.size)
      go_wp2
      go_ret2
      exact ⟨by rw [HN.out]; rfl, b2'⟩
  · have HN := Lib.hid (norm_check s HC.out h0)
    have t0 : (c != 0) = true := by simp [h0]
    clear h0
    go_enter Tryd.func20, Tryd.ntmps20
    go_wp2_with fail
    refine HCk.out.mono ?_
    rintro e w1 ⟨rfl, b1⟩
    go_wp2
    go_ret2
    exact ⟨by rw [HN.out]; rfl, b0.trans (b1.mono (by simp))⟩

set_option maxHeartbeats 1000000 in
theorem rNormal_any (B : Nat) (v : Value) (r : RL) (s : ByteArray) (w : World) (h : IsRules B w v r) (hB : B ≤ w.heap.size) (hm : s.size ≤ maxLen) :
    Calls Tryd.prog 22 #[v, .string s] w fun e w' => e = .returned (.bool (normalB r s)) ∧ Below w.heap.size w w' := by
  have HR := Lib.hid h
  obtain ⟨tv, nv, sv, rfl, -, -, -⟩ := h
  have b0 : Below w.heap.size w (w.alloc (.cells #[tv, nv, sv] 26)) := (Below.refl _ w).alloc (Nat.le_refl _) _
  have HC := Lib.hid (rNormalise_any B _ r s _ (HR.out.keep (b0.mono hB)) (by simp; omega) hm)
  have HN := Lib.hid (show normalB r s = ((normVal r s).2 == 0 && (normVal r s).1.toList == s.toList) from rfl)
  unfold normRet at HC
  generalize normVal r s = p at *
  obtain ⟨p1, p2⟩ := p
  go_enter Tryd.func22, Tryd.ntmps22
  go_wp2_with fail
  refine HC.out.mono ?_
  rintro e w1 ⟨rfl, b1⟩
  go_wp2
  all_goals go_ret
  all_goals exact ⟨ret_bool (by rw [HN.out]; simp_all), b0.trans (b1.mono (by simp))⟩
end Go.Proofs.YtfdlmneahanboaaDoor
