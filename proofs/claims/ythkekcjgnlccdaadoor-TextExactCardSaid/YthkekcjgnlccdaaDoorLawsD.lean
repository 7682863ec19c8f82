/- The walk of TextExact. -/
import Derived.Test.YthkekcjgnlccdaaDoorLawsC
namespace Go.Proofs.YthkekcjgnlccdaaDoor
open Go.RowKit

def shortB (xs : List ByteArray) : Bool := xs.all fun x => decide (x.size ≤ 200)

set_option maxHeartbeats 1000000 in
theorem Short_any (B : Nat) (v : Value) (xs : List ByteArray) (w : World) (h : IsTexts B w v xs) :
    Calls Tryd.prog 11 #[v] w fun e w' => e = .returned (.bool (shortB xs)) ∧ w = w' := by
  by_cases hne : xs = []
  · subst hne
    obtain ⟨a, c, rfl⟩ := h.nil_
    clear h
    go_enter Tryd.func11, Tryd.ntmps11
    go_wp2
    go_loop [3] (fun i => i = .int .i64 0) (fun _ => 0)
    case atStart => rfl
    case round =>
      obtain rfl := hrel
      go_wp2
      go_ret
      exact ⟨rfl, rfl⟩
  · obtain ⟨b, o, c, rfl, h1, h2, hlt, hc⟩ := h.at_ hne
    have HC := Lib.hid hc
    clear hc h
    unfold maxLen at h2
    go_enter Tryd.func11, Tryd.ntmps11
    go_wp2
    go_loop [3] (fun i => ∃ (k : Nat), k ≤ xs.length ∧ i = .int .i64 k ∧ shortB (xs.drop k) = shortB xs) (fun i => xs.length - (intOf i).toNat)
    case atStart => exact ⟨0, by omega, rfl, rfl⟩
    case round =>
      obtain ⟨k, hk, rfl, hacc⟩ := hrel
      have HA := Lib.hid hacc
      clear hacc
      by_cases hlt : k < xs.length
      · have hc := HC.out k hlt
        have HS := Lib.hid (show shortB (xs.drop k) = (decide (xs[k].size ≤ 200) && shortB (xs.drop (k + 1))) by
          rw [List.drop_eq_getElem_cons hlt]; rfl)
        by_cases hz : xs[k].size ≤ 200
        · have hzi : ¬ (200 : Int) < (xs[k].size : Int) := by omega
          go_wp2
          refine ⟨⟨k + 1, by omega, by go_num, ?_⟩, by simp [intOf]; omega⟩
          rw [← HA.out, HS.out]
          simp [hz]
        · have hzi : (200 : Int) < (xs[k].size : Int) := by omega
          go_wp2
          go_ret
          refine ⟨ret_bool ?_, rfl⟩
          rw [← HA.out, HS.out]
          simp [hz]
      · go_wp2
        go_ret
        refine ⟨ret_bool ?_, rfl⟩
        rw [← HA.out, List.drop_eq_nil_of_le (by omega)]
        rfl

theorem foldVal_is (s : ByteArray) : ∃ (fs : ByteArray) (es : Int), foldVal s = .tuple #[.string fs, .int .i64 es] ∧ fs.size ≤ 64 := by
  by_cases hv : validB s = true
  · exact ⟨_, 0, by simp [foldVal, hv], (folded_val s hv).2.2⟩
  · exact ⟨⟨#[]⟩, 3, by simp [foldVal, hv], by decide⟩

theorem short_one (raw : ByteArray) : shortB [raw] = decide (raw.size ≤ 200) := by simp [shortB]

set_option maxRecDepth 100000 in
set_option maxHeartbeats 4000000 in
theorem TextExact_walk (A : Option Addr) (n c : Nat) (raw : ByteArray) (pv : Value) (ps : List ByteArray) (w : World) (hE : Env w) (hI : IntsArg w A n c) (hr : raw.size ≤ maxLen) (hP : IsTexts w.heap.size w pv ps) :
    Calls Tryd.prog 3 #[.slice A n c, .string raw, pv] w fun e w' => e = .returned (.bool true) ∧ Below w.heap.size w w' := by
  have HP := Lib.hid hP
  obtain ⟨pa, pc, rfl, hp1, hp2, _⟩ := hP
  have HE := Lib.hid hE
  have HI := Lib.hid hI
  clear hE hI
  unfold maxLen at hr hp2
  go_enter Tryd.func3, Tryd.ntmps3
  go_wp2_with fail
  refine (awake_any w HE.out).mono ?_
  rintro e w1 ⟨rfl, b1⟩
  go_wp2_with fail
  refine (Few_any A n c w1 (Nat.le_trans HI.out.1 HI.out.2.1)).mono ?_
  rintro e w1' ⟨rfl, rfl⟩
  have hE1 := Lib.hid (HE.out.below b1 HE.out.size)
  by_cases hn : n ≤ 400
  · have hd : decide (n ≤ 400) = true := by simp [hn]
    rw [hd]
    clear hd
    go_wp2_with fail
    refine (Short_any _ _ [raw] _ (texts_lit w1 [raw] (by unfold maxLen; simp))).mono ?_
    rintro e w2 ⟨rfl, rfl⟩
    have b2 : Below w.heap.size w (w1.alloc (.cells ([raw].map Value.string).toArray 9)) := b1.alloc b1.size _
    rw [short_one]
    generalize w1.alloc (.cells ([raw].map Value.string).toArray 9) = w2 at *
    have hE2 := Lib.hid (HE.out.below b2 HE.out.size)
    by_cases hrz : raw.size ≤ 200
    · have hd : decide (raw.size ≤ 200) = true := by simp [hrz]
      rw [hd]
      clear hd
      by_cases hpl : ps.length ≤ 60
      · have hgt : ¬ (60 : Int) < (ps.length : Int) := by omega
        go_wp2_with fail
        refine (Short_any _ _ ps _ (HP.out.keep b2)).mono ?_
        rintro e w2' ⟨rfl, rfl⟩
        cases hsp : shortB ps
        · clear hsp
          go_wp2_with fail
          refine (awake_any _ hE2.out).mono ?_
          rintro e wz ⟨rfl, bz⟩
          go_wp2
          go_ret
          exact ⟨rfl, b2.trans (bz.mono b2.size)⟩
        · have HSP := Lib.hid hsp
          clear hsp
          go_wp2_with fail
          refine (New_any A n c w2 (HI.out.below b2)).mono ?_
          rintro e w3 ⟨rfl, hd3, b3⟩
          generalize hg : w2.heap.size = g at *
          have HG := Lib.hid hg
          clear hg
          have hgw : w.heap.size ≤ g := by rw [← HG.out]; exact b2.size
          go_wp2_with fail
          refine (Text_any g w3 hd3).mono ?_
          rintro e w4 ⟨t, rfl, ht, hd4, g4⟩
          go_wp2_with fail
          refine (Dress_any g w4 hd4 t (by omega)).mono ?_
          rintro e w5 ⟨r, rfl, hrr, _, hd5, g5⟩
          have b5 : Below w.heap.size w w5 := (b2.trans (b3.mono hgw)).trans (below_of_grown (grown_trans g4 g5) hgw (Nat.le_trans hgw (Nat.le_of_lt hd3.lt)))
          have hps : ∀ x ∈ ps, x.size ≤ 200 := fun x hx => by
            have := List.all_eq_true.1 HSP.out x hx
            simpa using this
          have hjl := join_size ps 200 hps
          have HPs := Lib.hid hps
          clear hps
          have HP5 := Lib.hid (HP.out.keep b5)
          go_wp2_with fail
          refine (rJoin_any _ _ ps w5 HP5.out (by omega) (fun x hx => Nat.le_trans (HPs.out x hx) (by omega))).mono ?_
          rintro e w5' ⟨rfl, rfl⟩
          have hjz : (bs (TM.join (ps.map (·.data.toList)))).size ≤ 20000 := by
            have : (bs (TM.join (ps.map (·.data.toList)))).size = (TM.join (ps.map (·.data.toList))).length := size_of_list _
            omega
          have htz : (t ++ raw : ByteArray).size ≤ 20000 := by rw [size_add]; omega
          generalize hJ : bs (TM.join (ps.map (·.data.toList))) = J at *
          have HJ := Lib.hid hJ
          clear hJ
          obtain ⟨xs, hxe, hx5, hxz⟩ : ∃ xs : List ByteArray, xs = [raw, t, t ++ raw, r, J] ∧ xs.length = 5 ∧ ∀ x ∈ xs, x.size ≤ 20000 := by
            refine ⟨_, rfl, rfl, fun x hx => ?_⟩
            simp only [List.mem_cons, List.not_mem_nil, or_false] at hx
            rcases hx with rfl | rfl | rfl | rfl | rfl
            · omega
            · omega
            · exact htz
            · omega
            · exact hjz
          have hcells : ∀ W, Below (w5.heap.size + 1) (w5.alloc (.cells #[.string raw, .string t, .string (t ++ raw), .string r, .string J] 9)) W → ∀ k, k < 5 → ∃ s : ByteArray, s.size ≤ 20000 ∧ W.cell? ⟨w5.heap.size, k, none⟩ = some (.string s) := by
            intro W hb k hk
            refine ⟨xs[k]'(by omega), hxz _ (List.getElem_mem _), ?_⟩
            rw [hb.cell (p := ⟨w5.heap.size, k, none⟩) (Nat.lt_succ_self _), cell_of_row _ _ _ _ _ _ (heap_alloc_new w5 _)]
            have e : (#[.string raw, .string t, .string (t ++ raw), .string r, .string J] : Array Value) = (xs.map Value.string).toArray := by rw [hxe]; rfl
            rw [e]
            simp
          have HC := Lib.hid hcells
          clear hcells hxe hx5 hxz htz hjz
          go_wp2
          go_loopw [55] (fun i wr => ∃ k : Nat, k ≤ 5 ∧ i = .int .i64 k ∧ Below (w5.heap.size + 1) (w5.alloc (.cells #[.string raw, .string t, .string (t ++ raw), .string r, .string J] 9)) wr) (fun i _ => 5 - (intOf i).toNat)
          case atStart => exact ⟨0, by omega, rfl, Below.refl _ _⟩
          case round =>
            obtain ⟨k, hk, rfl, hbw⟩ := hrel
            have bwr : Below w.heap.size w wr := (b5.alloc b5.size _).trans (hbw.mono (by have := b5.size; omega))
            have hEr := Lib.hid (HE.out.below bwr HE.out.size)
            have HBW := Lib.hid hbw
            clear hbw
            by_cases hlt : k < 5
            · obtain ⟨s, hsz, hc⟩ := HC.out wr HBW.out k hlt
              obtain ⟨fs, es, hfv, hfz⟩ := foldVal_is s
              have FV := Lib.hid hfv
              clear hfv
              go_wp2_with fail
              refine (Fold_is s _ wr hEr.out (by omega) FV.out).mono ?_
              rintro e x1 ⟨rfl, d1⟩
              go_wp2_with fail
              refine (rFold_is s _ x1 (by omega) FV.out).mono ?_
              rintro e x2 ⟨rfl, d2⟩
              have d2' : Below wr.heap.size wr x2 := d1.trans (d2.mono d1.size)
              have hE2x := Lib.hid (hEr.out.below d2' hEr.out.size)
              go_wp2_with fail
              refine (Valid_any s x2 (by unfold maxLen; omega)).mono ?_
              rintro e x2' ⟨rfl, rfl⟩
              go_wp2_with fail
              refine (rValid_any s x2 (by unfold maxLen; omega)).mono ?_
              rintro e x2' ⟨rfl, rfl⟩
              go_wp2_with fail
              refine (Folded_any s x2 hE2x.out (by unfold maxLen; omega)).mono ?_
              rintro e x3 ⟨rfl, d3⟩
              have d3' : Below wr.heap.size wr x3 := d2'.trans (d3.mono d2'.size)
              go_wp2_with fail
              refine (rFolded_any s x3 (by unfold maxLen; omega)).mono ?_
              rintro e x4 ⟨rfl, d4⟩
              have d4' : Below wr.heap.size wr x4 := d3'.trans (d4.mono d3'.size)
              have hE4x := Lib.hid (hEr.out.below d4' hEr.out.size)
              go_wp2_with fail
              refine (Folded_any fs x4 hE4x.out (by unfold maxLen; omega)).mono ?_
              rintro e x5 ⟨rfl, d5⟩
              have d5' : Below wr.heap.size wr x5 := d4'.trans (d5.mono d4'.size)
              go_wp2_with fail
              refine (rFolded_any fs x5 (by unfold maxLen; omega)).mono ?_
              rintro e x6 ⟨rfl, d6⟩
              have d6' : Below wr.heap.size wr x6 := d5'.trans (d6.mono d5'.size)
              go_wp2_with fail
              refine (Letters_any s x6 (by omega)).mono ?_
              rintro e x7 ⟨rfl, d7⟩
              have d7' : Below wr.heap.size wr x7 := d6'.trans (d7.mono d6'.size)
              go_wp2_with fail
              refine (rLetters_any s x7 (by omega)).mono ?_
              rintro e x7' ⟨rfl, rfl⟩
              generalize (⟨(s.data.toList.filter TM.lower).toArray⟩ : ByteArray) = ls at *
              have hE7x := Lib.hid (hEr.out.below d7' hEr.out.size)
              go_wp2_with fail
              refine (Tokens_any s x7 hE7x.out (by omega)).mono ?_
              rintro e x8 ⟨v1, rfl, ⟨ys, hy, hyl⟩, d8⟩
              have d8' : Below wr.heap.size wr x8 := d7'.trans (d8.mono d7'.size)
              go_wp2_with fail
              refine (rTokens_any s x8 (by omega)).mono ?_
              rintro e x9 ⟨v2, rfl, ⟨zs, hz, hzl⟩, d9⟩
              have d9' : Below wr.heap.size wr x9 := d8'.trans (d9.mono d8'.size)
              have hsame : sameB ys zs = true := by unfold sameB; rw [hyl, hzl]; simp
              have HSm := Lib.hid hsame
              clear hsame hyl hzl
              go_wp2_with fail
              refine (rSame_any _ v1 v2 ys zs x9 ((hy.keep d9).more d9.size) hz).mono ?_
              rintro e x10 ⟨rfl, d10⟩
              rw [HSm.out]
              have d10' : Below wr.heap.size wr x10 := d9'.trans (d10.mono d9'.size)
              go_wp2
              exact ⟨⟨k + 1, by omega, by go_num, HBW.out.trans (d10'.mono (by have := HBW.out.size; simpa using this))⟩, by simp [intOf]; omega⟩
            · have HPw := Lib.hid (HP.out.keep bwr)
              have hwr := bwr.size
              go_wp2_with fail
              refine (Join_any _ _ ps wr HPw.out hwr (by omega) (by omega)).mono ?_
              rintro e x1 ⟨rfl, d1⟩
              have HPx := Lib.hid (HPw.out.keep (d1.mono hwr))
              go_wp2_with fail
              refine (rJoin_any _ _ ps x1 HPx.out (by omega) (fun x hx => Nat.le_trans (HPs.out x hx) (by omega))).mono ?_
              rintro e x1' ⟨rfl, rfl⟩
              go_wp2
              go_ret
              exact ⟨rfl, bwr.trans (d1.mono hwr)⟩
      · have hgt : (60 : Int) < (ps.length : Int) := by omega
        go_wp2_with fail
        refine (awake_any _ hE2.out).mono ?_
        rintro e wz ⟨rfl, bz⟩
        go_wp2
        go_ret
        exact ⟨rfl, b2.trans (bz.mono b2.size)⟩
    · have hd : decide (raw.size ≤ 200) = false := by simp; omega
      rw [hd]
      clear hd
      go_wp2_with fail
      refine (awake_any _ hE2.out).mono ?_
      rintro e wz ⟨rfl, bz⟩
      go_wp2
      go_ret
      exact ⟨rfl, b2.trans (bz.mono b2.size)⟩
  · have hd : decide (n ≤ 400) = false := by simp; omega
    rw [hd]
    clear hd
    go_wp2_with fail
    refine (awake_any w1 hE1.out).mono ?_
    rintro e w2 ⟨rfl, b2⟩
    go_wp2
    go_ret
    exact ⟨rfl, b1.trans (b2.mono b1.size)⟩
end Go.Proofs.YthkekcjgnlccdaaDoor
