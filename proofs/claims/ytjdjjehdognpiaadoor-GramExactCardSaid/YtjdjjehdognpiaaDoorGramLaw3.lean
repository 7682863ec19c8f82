/- The walk of GramExact. -/
import Derived.Test.YtjdjjehdognpiaaDoorGramLaw2
namespace Go.Proofs.YtjdjjehdognpiaaDoor
open Go.RowKit
set_option linter.unusedVariables false
set_option maxRecDepth 100000

theorem foldVal_is (s : ByteArray) : ∃ (fs : ByteArray) (es : Int), foldVal s = .tuple #[.string fs, .int .i64 es] ∧ fs.size ≤ 64 := by
  by_cases hv : validB s = true
  · refine ⟨bs (TM.fold s.data.toList), 0, by simp [foldVal, hv], ?_⟩
    have h1 : s.size ≤ 64 := by
      unfold validB TM.valid at hv
      simp at hv
      omega
    have h2 := spell_len s.data.toList
    have h3 := (words_len (TM.spell s.data.toList) []).2
    have h4 : (bs (TM.fold s.data.toList)).size = (TM.fold s.data.toList).length := size_of_list _
    have h5 : (TM.fold s.data.toList).length = (TM.join (TM.words [] (TM.spell s.data.toList))).length := rfl
    rw [size_list] at h2
    simp at h3
    omega
  · exact ⟨⟨#[]⟩, 3, by simp [foldVal, hv], by decide⟩
theorem short_all {xs : List ByteArray} (h : shortB xs = true) : ∀ x ∈ xs, x.size ≤ 200 := by
  intro x hx
  unfold shortB at h
  have := List.all_eq_true.1 h x hx
  simpa using this

/-- A value that reads as a short list of short texts. -/
def Readable (W : World) (v : Value) : Prop := ∃ a c xs, v = .slice a xs.length c ∧ IsTexts W.heap.size W (.slice a xs.length c) xs ∧ c ≤ maxLen ∧ xs.length ≤ 70 ∧ ∀ x ∈ xs, x.size ≤ 200
theorem Readable.keep {W W' : World} {v : Value} (h : Readable W v) (hb : Below W.heap.size W W') : Readable W' v := by
  obtain ⟨a, c, xs, hv, h1, h2, h3, h4⟩ := h
  exact ⟨a, c, xs, hv, (h1.keep hb).more hb.size, h2, h3, h4⟩
theorem readable_texts {B : Nat} {W : World} {v : Value} {xs : List ByteArray} (h : IsTexts B W v xs) (hB : B ≤ W.heap.size) (hl : xs.length ≤ 70) (hz : ∀ x ∈ xs, x.size ≤ 200) : Readable W v := by
  have h' := h
  obtain ⟨a, c, rfl, -, h2, -⟩ := h'
  exact ⟨a, c, xs, rfl, h.more hB, h2, hl, hz⟩
theorem readable_lists {base : Nat} {W : World} {v : Value} {L : List (List UInt8)} (h : OwnsL base W v L) (hl : L.length ≤ 70) (hz : ∀ z ∈ L, z.length = 2) : Readable W v := by
  refine readable_texts h.texts (Nat.le_refl _) (by rw [List.length_map]; exact hl) ?_
  intro x hx
  obtain ⟨z, h, rfl⟩ := List.mem_map.1 hx
  have : (bs z).size = z.length := size_of_list z
  rw [this, hz z h]
  decide
theorem three_cells (w : World) (T : TypeId) (v0 v1 v2 : Value) (j : Nat) (hj : j < 3) : ∃ v, (w.alloc (.cells #[v0, v1, v2] T)).cell? ⟨w.heap.size, j, none⟩ = some v ∧ (v = v0 ∨ v = v1 ∨ v = v2) := by
  have h0 := cell_of_row (w.alloc (.cells #[v0, v1, v2] T)) w.heap.size j _ _ _ (heap_alloc_new w _)
  match j, hj with
  | 0, _ => exact ⟨v0, h0, .inl rfl⟩
  | 1, _ => exact ⟨v1, h0, .inr (.inl rfl)⟩
  | 2, _ => exact ⟨v2, h0, .inr (.inr rfl)⟩

def digits8 : ByteArray := ⟨#[49, 57, 56, 48, 48, 50, 48, 51]⟩
def alpha26 : ByteArray := ⟨#[97, 98, 99, 100, 101, 102, 103, 104, 105, 106, 107, 108, 109, 110, 111, 112, 113, 114, 115, 116, 117, 118, 119, 120, 121, 122]⟩
def alpha27 : ByteArray := ⟨#[97, 98, 99, 100, 101, 102, 103, 104, 105, 106, 107, 108, 109, 110, 111, 112, 113, 114, 115, 116, 117, 118, 119, 120, 121, 122, 49]⟩

set_option maxHeartbeats 8000000 in
theorem GramExact_walk (A : Option Addr) (n c : Nat) (raw : ByteArray) (pv qv : Value) (ps qs : List ByteArray) (w : World) (hE : Env w) (hI : IntsArg w A n c) (hr : raw.size ≤ maxLen) (hP : IsTexts w.heap.size w pv ps) (hQ : IsTexts w.heap.size w qv qs) :
    Calls Tryd.prog 3 #[.slice A n c, .string raw, pv, qv] w fun e w' => e = .returned (.bool true) ∧ Below w.heap.size w w' := by
  have HP := Lib.hid hP
  have HQ := Lib.hid hQ
  obtain ⟨pa, pc, rfl, hp1, hp2, _⟩ := hP
  obtain ⟨qa, qc, rfl, hq1, hq2, _⟩ := hQ
  have HE := Lib.hid hE
  have HI := Lib.hid hI
  clear hE hI
  unfold maxLen at hr hp2 hq2
  go_enter Tryd.func3, Tryd.ntmps3
  go_wp2_with fail
  refine (awake5_any w HE.out).mono ?_
  rintro e w1 ⟨rfl, b1⟩
  go_wp2_with fail
  refine (Few_any A n c w1 (Nat.le_trans HI.out.1 HI.out.2.1)).mono ?_
  rintro e w1' ⟨rfl, rfl⟩
  have hE1 := Lib.hid (HE.out.below b1 HE.out.size)
  by_cases hn : n ≤ 400
  · have hd : decide (n ≤ 400) = true := by simp [hn]
    rw [hd]
    clear hd
    go_wp2_with fail
    refine (Short_any _ _ [raw] _ (texts_lit w1 [raw] (by unfold maxLen; simp))).mono ?_
    rintro e w2 ⟨rfl, rfl⟩
    have b2 : Below w.heap.size w (w1.alloc (.cells ([raw].map Value.string).toArray 9)) := b1.alloc b1.size _
    rw [short_one]
    generalize w1.alloc (.cells ([raw].map Value.string).toArray 9) = w2 at *
    have hE2 := Lib.hid (HE.out.below b2 HE.out.size)
    by_cases hrz : raw.size ≤ 200
    · have hd : decide (raw.size ≤ 200) = true := by simp [hrz]
      rw [hd]
      clear hd
      by_cases hpl : ps.length ≤ 60
      · have hgt : ¬ (60 : Int) < (ps.length : Int) := by omega
        by_cases hql : qs.length ≤ 60
        · have hgt2 : ¬ (60 : Int) < (qs.length : Int) := by omega
          go_wp2_with fail
          refine (Short_any _ _ ps _ (HP.out.keep b2)).mono ?_
          rintro e w2' ⟨rfl, rfl⟩
          cases hsp : shortB ps
          · clear hsp
            go_wp2_with fail
            refine (awake5_any _ hE2.out).mono ?_
            rintro e wz ⟨rfl, bz⟩
            go_wp2
            go_ret
            exact ⟨rfl, b2.trans (bz.mono b2.size)⟩
          · have HSP := Lib.hid (short_all hsp)
            clear hsp
            go_wp2_with fail
            refine (Short_any _ _ qs _ (HQ.out.keep b2)).mono ?_
            rintro e w2' ⟨rfl, rfl⟩
            cases hsq : shortB qs
            · clear hsq
              go_wp2_with fail
              refine (awake5_any _ hE2.out).mono ?_
              rintro e wz ⟨rfl, bz⟩
              go_wp2
              go_ret
              exact ⟨rfl, b2.trans (bz.mono b2.size)⟩
            · have HSQ := Lib.hid (short_all hsq)
              clear hsq
              go_wp2_with fail
              refine (New_any A n c w2 (HI.out.below b2)).mono ?_
              rintro e w3 ⟨rfl, hd3, b3⟩
              generalize hg : w2.heap.size = g at *
              have HG := Lib.hid hg
              clear hg
              have hgw : w.heap.size ≤ g := by rw [← HG.out]; exact b2.size
              have b3' : Below w.heap.size w w3 := b2.trans (b3.mono hgw)
              go_wp2_with fail
              refine (Text_any g w3 hd3).mono ?_
              rintro e w4 ⟨t, rfl, ht, hd4, g4⟩
              have b4 : Below w.heap.size w w4 := b3'.trans (below_deck g4 hgw hd3.lt)
              obtain ⟨fs, es, hfv, hfz⟩ := foldVal_is t
              have FV := Lib.hid hfv
              clear hfv
              go_wp2_with fail
              refine (rFold_is _ _ w4 (by omega) FV.out).mono ?_
              rintro e w5 ⟨rfl, b5⟩
              have hd5 := hd4.below b5 hd4.lt
              have b5' : Below w.heap.size w w5 := b4.trans (b5.mono b4.size)
              clear hd3 hd4 FV
              have hcat : (fs ++ raw).size ≤ 264 := by rw [size_add]; omega
              have hcat2 : ¬ (9223372036854775807 < fs.size + raw.size) := by omega
              have HXS := Lib.hid (show ∀ x ∈ [raw, fs, fs ++ raw, digits8, alpha26, alpha27], x.size ≤ 1048576 by
                have h1 : digits8.size ≤ 1048576 := by decide
                have h2 : alpha26.size ≤ 1048576 := by decide
                have h3 : alpha27.size ≤ 1048576 := by decide
                intro x hx
                simp only [List.mem_cons, List.not_mem_nil, or_false] at hx
                rcases hx with rfl | rfl | rfl | rfl | rfl | rfl <;> omega)
              have HCE := Lib.hid (lit_cell w5 [raw, fs, fs ++ raw, digits8, alpha26, alpha27])
              have hXl : [raw, fs, fs ++ raw, digits8, alpha26, alpha27].length = 6 := rfl
              have b6 : Below w5.heap.size w5 (w5.alloc (.cells ([raw, fs, fs ++ raw, digits8, alpha26, alpha27].map Value.string).toArray 9)) := (Below.refl _ w5).alloc (Nat.le_refl _) _
              have hs6 : w5.heap.size < (w5.alloc (.cells ([raw, fs, fs ++ raw, digits8, alpha26, alpha27].map Value.string).toArray 9)).heap.size := by simp
              obtain ⟨W6, hW6⟩ : ∃ W, W = w5.alloc (.cells ([raw, fs, fs ++ raw, digits8, alpha26, alpha27].map Value.string).toArray 9) := ⟨_, rfl⟩
              rw [← hW6] at HCE b6 hs6
              obtain ⟨X, hX⟩ : ∃ X, X = [raw, fs, fs ++ raw, digits8, alpha26, alpha27] := ⟨_, rfl⟩
              rw [← hX] at HXS HCE hXl
              have HXL := Lib.hid hXl
              have HW6 := Lib.hid hW6
              clear hX hXl hW6
              have hW7 : w5.alloc (.cells #[.string raw, .string fs, .string (fs ++ raw), .string ⟨#[49, 57, 56, 48, 48, 50, 48, 51]⟩, .string ⟨#[97, 98, 99, 100, 101, 102, 103, 104, 105, 106, 107, 108, 109, 110, 111, 112, 113, 114, 115, 116, 117, 118, 119, 120, 121, 122]⟩, .string ⟨#[97, 98, 99, 100, 101, 102, 103, 104, 105, 106, 107, 108, 109, 110, 111, 112, 113, 114, 115, 116, 117, 118, 119, 120, 121, 122, 49]⟩] 9) = W6 := HW6.out.symm
              go_wp2
              try rw [hW7]
              clear hW7 HW6
              have hq5 : w5.heap.size = w5.heap.size := rfl
              generalize hqq : w5.heap.size = q5 at *
              have HQ5 := Lib.hid hqq
              clear hqq hq5
              have b6' : Below w.heap.size w W6 := b5'.trans (b6.mono (by rw [← HQ5.out]; exact b5'.size))
              have hd6 : Deck g W6 := hd5.below b6 (by rw [← HQ5.out]; exact hd5.lt)
              clear hd5 hcat hcat2
              go_loopw [69] (fun i wr => ∃ j : Nat, j ≤ 6 ∧ i = .int .i64 j ∧ Below W6.heap.size W6 wr) (fun i _ => 6 - (intOf i).toNat)
              case atStart => exact ⟨0, by omega, rfl, Below.refl _ _⟩
              case round =>
                obtain ⟨j, hj, rfl, hbr⟩ := hrel
                have brw : Below w.heap.size w wr := b6'.trans (hbr.mono b6'.size)
                by_cases hlt : j < 6
                · have hjX : j < X.length := by rw [HXL.out]; exact hlt
                  have hcj := (hbr.cell (p := ⟨q5, j, none⟩) hs6).trans (HCE.out j hjX)
                  have hTz := HXS.out X[j] (List.getElem_mem hjX)
                  generalize X[j] = T at *
                  have HG1 := Lib.hid (Grams_any T wr (HE.out.below brw HE.out.size) hTz)
                  have HG2 := Lib.hid (fun (V : World) => rGrams_any T V hTz)
                  have HP1 := Lib.hid (fun (V : World) => Positional_any T V hTz)
                  have HP2 := Lib.hid (fun (V : World) => rPositional_any T V hTz)
                  generalize GM.gramsL T.data.toList = GT at *
                  generalize GM.posL T.data.toList = PT at *
                  go_wp2_with fail
                  refine HG1.out.mono ?_
                  rintro e x1 ⟨u1, rfl, p1, d1⟩
                  go_wp2_with fail
                  refine (HG2.out x1).mono ?_
                  rintro e x2 ⟨u2, rfl, p2, d2⟩
                  have d2' := d1.trans (d2.mono d1.size)
                  go_wp2_with fail
                  refine (Same_lists (p1.below d2) p2).mono ?_
                  rintro e x3 ⟨rfl, d3⟩
                  have d3' := d2'.trans (d3.mono d2'.size)
                  rw [decide_eq_true rfl]
                  clear p1 p2
                  go_wp2_with fail
                  refine (HP1.out x3).mono ?_
                  rintro e x4 ⟨u4, rfl, p4, d4⟩
                  have d4' := d3'.trans (d4.mono d3'.size)
                  go_wp2_with fail
                  refine (HP2.out x4).mono ?_
                  rintro e x5 ⟨u5, rfl, p5, d5⟩
                  have d5' := d4'.trans (d5.mono d4'.size)
                  go_wp2_with fail
                  refine (Same_lists (p4.below d5) p5).mono ?_
                  rintro e x6 ⟨rfl, d6⟩
                  have d6' := d5'.trans (d6.mono d5'.size)
                  rw [decide_eq_true rfl]
                  clear p4 p5
                  go_wp2
                  exact ⟨⟨j + 1, by omega, by go_num, hbr.trans (d6'.mono hbr.size)⟩, by simp [intOf]; omega⟩
                · obtain rfl : j = 6 := by omega
                  have hd7 : Deck g wr := hd6.below hbr hd6.lt
                  clear hd6
                  go_wp2_with fail
                  refine (Token_any g wr hd7).mono ?_
                  rintro e y1 ⟨ta, rfl, hta, hd8, g8⟩
                  have hza := low_size hta
                  clear hta
                  have c1 : Below w.heap.size w y1 := brw.trans (below_deck g8 hgw hd7.lt)
                  go_wp2_with fail
                  refine (rGrams_any ta y1 (by omega)).mono ?_
                  rintro e y2 ⟨vx, rfl, ox, c2⟩
                  have hd9 := hd8.below c2 hd8.lt
                  have c2' := c1.trans (c2.mono c1.size)
                  go_wp2_with fail
                  refine (Token_any g y2 hd9).mono ?_
                  rintro e y3 ⟨tb, rfl, htb, hd10, g10⟩
                  have hzb := low_size htb
                  clear htb
                  have c3 : Below w.heap.size w y3 := c2'.trans (below_deck g10 hgw hd9.lt)
                  have ox3 := ox.deck g10 hd8.lt
                  go_wp2_with fail
                  refine (rGrams_any tb y3 (by omega)).mono ?_
                  rintro e y4 ⟨vy, rfl, oy, c4⟩
                  have c4' := c3.trans (c4.mono c3.size)
                  have hRX := readable_lists (ox3.below c4) (by have := GM.grams_le ta.data.toList; omega) (GM.grams_two _)
                  have hRY := readable_lists oy (by have := GM.grams_le tb.data.toList; omega) (GM.grams_two _)
                  have hRP := readable_texts (HP.out.keep c4') c4'.size (by omega) HSP.out
                  have hRQ := readable_texts (HQ.out.keep c4') c4'.size (by omega) HSQ.out
                  have HRX := Lib.hid hRX
                  have HRY := Lib.hid hRY
                  have HRP := Lib.hid hRP
                  have HRQ := Lib.hid hRQ
                  obtain ⟨xa, xc, lx, rfl, -, hx2, hx3, -⟩ := hRX
                  obtain ⟨ya, yc, ly, rfl, -, hy2, hy3, -⟩ := hRY
                  clear hRP hRQ ox ox3 oy hd7 hd8 hd9 hd10
                  unfold maxLen at hx2 hy2
                  go_wp2
                  have hr4 : y4.heap.size < (y4.alloc (.cells #[.slice pa ps.length pc, .slice xa lx.length xc, .slice qa qs.length qc] 23)).heap.size := by simp
                  have bV : Below y4.heap.size y4 (y4.alloc (.cells #[.slice pa ps.length pc, .slice xa lx.length xc, .slice qa qs.length qc] 23)) := (Below.refl _ y4).alloc (Nat.le_refl _) _
                  have HC3 := Lib.hid (three_cells y4 23 (.slice pa ps.length pc) (.slice xa lx.length xc) (.slice qa qs.length qc))
                  generalize y4.alloc (.cells #[.slice pa ps.length pc, .slice xa lx.length xc, .slice qa qs.length qc] 23) = V at *
                  have HRXV := Lib.hid (HRX.out.keep bV)
                  have HRYV := Lib.hid (HRY.out.keep bV)
                  have HRPV := Lib.hid (HRP.out.keep bV)
                  have HRQV := Lib.hid (HRQ.out.keep bV)
                  have cV := c4'.trans (bV.mono c4'.size)
                  have HCV := Lib.hid (show ∀ j, j < 3 → ∃ v, V.cell? ⟨y4.heap.size, j, none⟩ = some v ∧ Readable V v from fun j hj => by
                    obtain ⟨v, hv, hor⟩ := HC3.out j hj
                    rcases hor with rfl | rfl | rfl
                    · exact ⟨_, hv, HRPV.out⟩
                    · exact ⟨_, hv, HRXV.out⟩
                    · exact ⟨_, hv, HRQV.out⟩)
                  generalize hr5 : y4.heap.size = r5 at *
                  have HR5 := Lib.hid hr5
                  clear hr5 HRX HRY HRP HRQ HRPV HC3
                  go_loopw [99] (fun i wr => ∃ j : Nat, j ≤ 3 ∧ i = .int .i64 j ∧ Below V.heap.size V wr) (fun i _ => 3 - (intOf i).toNat)
                  case atStart => exact ⟨0, by omega, rfl, Below.refl _ _⟩
                  case round =>
                    obtain ⟨j, hj, rfl, hbr2⟩ := hrel
                    have brv : Below w.heap.size w wr := cV.trans (hbr2.mono cV.size)
                    by_cases hlt : j < 3
                    · obtain ⟨pv, hcp, hRp⟩ := HCV.out j hlt
                      have hcp' := (hbr2.cell (p := ⟨r5, j, none⟩) hr4).trans hcp
                      have HRp := Lib.hid (hRp.keep hbr2)
                      obtain ⟨a1, c1v, us, rfl, -, hu2, hu3, -⟩ := hRp
                      clear hcp
                      unfold maxLen at hu2
                      have t0 : decide ((j : Int) < 3) = true := by simp; omega
                      obtain ⟨W0, hW0⟩ : ∃ W, W = wr := ⟨_, rfl⟩
                      rw [← hW0] at hbr2 brv hcp' HRp ⊢
                      clear hW0
                      go_wp2
                      have hr6 : W0.heap.size < (W0.alloc (.cells #[.slice qa qs.length qc, .slice ya ly.length yc, .slice xa lx.length xc] 23)).heap.size := by simp
                      have bU : Below W0.heap.size W0 (W0.alloc (.cells #[.slice qa qs.length qc, .slice ya ly.length yc, .slice xa lx.length xc] 23)) := (Below.refl _ W0).alloc (Nat.le_refl _) _
                      have HC4 := Lib.hid (three_cells W0 23 (.slice qa qs.length qc) (.slice ya ly.length yc) (.slice xa lx.length xc))
                      generalize W0.alloc (.cells #[.slice qa qs.length qc, .slice ya ly.length yc, .slice xa lx.length xc] 23) = U at *
                      have bVU : Below V.heap.size V U := hbr2.trans (bU.mono hbr2.size)
                      have cU := cV.trans (bVU.mono cV.size)
                      have HCU := Lib.hid (show ∀ j, j < 3 → ∃ v, U.cell? ⟨W0.heap.size, j, none⟩ = some v ∧ Readable U v from fun j hj => by
                        obtain ⟨v, hv, hor⟩ := HC4.out j hj
                        rcases hor with rfl | rfl | rfl
                        · exact ⟨_, hv, HRQV.out.keep bVU⟩
                        · exact ⟨_, hv, HRYV.out.keep bVU⟩
                        · exact ⟨_, hv, HRXV.out.keep bVU⟩)
                      have HRpU := Lib.hid (HRp.out.keep bU)
                      generalize hr7 : W0.heap.size = r7 at *
                      clear hr7 HRp HC4
                      go_loopw [108] (fun i wr => ∃ j : Nat, j ≤ 3 ∧ i = .int .i64 j ∧ Below U.heap.size U wr) (fun i _ => 3 - (intOf i).toNat)
                      case atStart => exact ⟨0, by omega, rfl, Below.refl _ _⟩
                      case round =>
                        obtain ⟨l, hl, rfl, hbr3⟩ := hrel
                        have bru : Below w.heap.size w wr := cU.trans (hbr3.mono cU.size)
                        have HRpr := Lib.hid (HRpU.out.keep hbr3)
                        by_cases hlt2 : l < 3
                        · obtain ⟨qv, hcq, hRq⟩ := HCU.out l hlt2
                          have hcq' := (hbr3.cell (p := ⟨r7, l, none⟩) hr6).trans hcq
                          have HRqr := Lib.hid (hRq.keep hbr3)
                          obtain ⟨a2, c2v, zs, rfl, -, hz2, hz3, -⟩ := hRq
                          clear hcq
                          unfold maxLen at hz2
                          obtain ⟨_, _, us', e1, i1, -, l1, z1⟩ := HRpr.out
                          obtain ⟨_, _, zs', e2, i2, -, l2, z2⟩ := HRqr.out
                          rw [← e1] at i1
                          rw [← e2] at i2
                          have HI1 := Lib.hid i1
                          have HI2 := Lib.hid i2
                          have HZ1 := Lib.hid (fun x hx => Nat.le_trans (z1 x hx) (by decide : 200 ≤ 1048576))
                          have HZ2 := Lib.hid (fun x hx => Nat.le_trans (z2 x hx) (by decide : 200 ≤ 1048576))
                          clear e1 e2 i1 i2 z1 z2
                          have HK1 := Lib.hid (fun (W : World) (hW : Below wr.heap.size wr W) => Common_any _ _ _ _ us' zs' W (HI1.out.keep hW) (HI2.out.keep hW) hW.size hW.size (by omega) (by omega) HZ1.out HZ2.out)
                          have HK2 := Lib.hid (fun (W : World) (hW : Below wr.heap.size wr W) => rCommon_any _ _ _ _ us' zs' W (HI1.out.keep hW) (HI2.out.keep hW) hW.size hW.size (by omega) (by omega))
                          have HK3 := Lib.hid (fun (W : World) (hW : Below wr.heap.size wr W) => Dice_any _ _ _ _ us' zs' W (HI1.out.keep hW) (HI2.out.keep hW) hW.size hW.size (by omega) (by omega) HZ1.out HZ2.out)
                          have HK4 := Lib.hid (fun (W : World) (hW : Below wr.heap.size wr W) => rDice_any _ _ _ _ us' zs' W (HI1.out.keep hW) (HI2.out.keep hW) hW.size hW.size (by omega) (by omega))
                          generalize GM.commonN (us'.map (·.data.toList)) (zs'.map (·.data.toList)) = cn at *
                          generalize GM.diceN (us'.map (·.data.toList)) (zs'.map (·.data.toList)) = dn at *
                          go_wp2_with fail
                          refine (HK1.out wr (Below.refl _ _)).mono ?_
                          rintro e x1 ⟨rfl, d1⟩
                          go_wp2_with fail
                          refine (HK2.out x1 d1).mono ?_
                          rintro e x2 ⟨rfl, d2⟩
                          have d2' := d1.trans (d2.mono d1.size)
                          go_wp2_with fail
                          refine (HK3.out x2 d2').mono ?_
                          rintro e x3 ⟨rfl, d3⟩
                          have d3' := d2'.trans (d3.mono d2'.size)
                          go_wp2_with fail
                          refine (HK4.out x3 d3').mono ?_
                          rintro e x4 ⟨rfl, d4⟩
                          have d4' := d3'.trans (d4.mono d3'.size)
                          go_wp2
                          exact ⟨⟨l + 1, by omega, by go_num, hbr3.trans (d4'.mono hbr3.size)⟩, by simp [intOf]; omega⟩
                        · obtain rfl : l = 3 := by omega
                          obtain ⟨_, _, us', e1, i1, -, l1, z1⟩ := HRpr.out
                          rw [← e1] at i1
                          have HI1 := Lib.hid i1
                          have HZ1 := Lib.hid (fun x hx => Nat.le_trans (z1 x hx) (by decide : 200 ≤ 1048576))
                          clear e1 i1 z1
                          have HK1 := Lib.hid (Set_any _ _ us' wr HI1.out (Nat.le_refl _) (by omega) HZ1.out)
                          have HK2 := Lib.hid (fun (W : World) (hW : Below wr.heap.size wr W) => rSet_any _ _ us' W (HI1.out.keep hW) hW.size (by omega))
                          generalize GM.setL (us'.map (·.data.toList)) = SL at *
                          go_wp2_with fail
                          refine HK1.out.mono ?_
                          rintro e x1 ⟨u1, rfl, p1, d1⟩
                          go_wp2_with fail
                          refine (HK2.out x1 d1).mono ?_
                          rintro e x2 ⟨u2, rfl, p2, d2⟩
                          have d2' := d1.trans (d2.mono d1.size)
                          go_wp2_with fail
                          refine (Same_lists (p1.below d2) p2).mono ?_
                          rintro e x3 ⟨rfl, d3⟩
                          have d3' := d2'.trans (d3.mono d2'.size)
                          rw [decide_eq_true rfl]
                          clear p1 p2
                          go_wp2
                          exact ⟨⟨j + 1, by omega, by go_num, bVU.trans ((hbr3.trans (d3'.mono hbr3.size)).mono bVU.size)⟩, by simp [intOf]; omega⟩
                    · obtain rfl : j = 3 := by omega
                      go_wp2
                      go_ret
                      exact ⟨rfl, brv⟩
        · have hgt2 : (60 : Int) < (qs.length : Int) := by omega
          go_wp2_with fail
          refine (awake5_any _ hE2.out).mono ?_
          rintro e wz ⟨rfl, bz⟩
          go_wp2
          go_ret
          exact ⟨rfl, b2.trans (bz.mono b2.size)⟩
      · have hgt : (60 : Int) < (ps.length : Int) := by omega
        go_wp2_with fail
        refine (awake5_any _ hE2.out).mono ?_
        rintro e wz ⟨rfl, bz⟩
        go_wp2
        go_ret
        exact ⟨rfl, b2.trans (bz.mono b2.size)⟩
    · have hd : decide (raw.size ≤ 200) = false := by simp [hrz]
      rw [hd]
      clear hd
      go_wp2_with fail
      refine (awake5_any _ hE2.out).mono ?_
      rintro e wz ⟨rfl, bz⟩
      go_wp2
      go_ret
      exact ⟨rfl, b2.trans (bz.mono b2.size)⟩
  · have hd : decide (n ≤ 400) = false := by simp; omega
    rw [hd]
    clear hd
    go_wp2_with fail
    refine (awake5_any w1 hE1.out).mono ?_
    rintro e w2 ⟨rfl, b2⟩
    go_wp2
    go_ret
    exact ⟨rfl, b1.trans (b2.mono b1.size)⟩
end Go.Proofs.YtjdjjehdognpiaaDoor
