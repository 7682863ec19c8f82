/- The walk of NameIdempotent. -/
import Derived.Test.YtfdlmneahanboaaDoorDeckBent
import Derived.Deep.RegionHeld3
namespace Go.Proofs.YtfdlmneahanboaaDoor
open Go.RowKit
set_option linter.unusedVariables false

theorem drew_grown {w w' : World} {x : Option Nat} (h : w.drew.grownBy w' x) : w.grownBy w' x := ⟨h.os, h.tape, h.output, h.size, h.block⟩
theorem norm_cases (r : RL) (s : ByteArray) : (∃ c, c ≠ 0 ∧ normVal r s = (noB, c)) ∨
    (normVal r s = (normTxt r s, 0) ∧ checkV r = 0 ∧ rightB r = true ∧ validB s = true ∧ (normToks r s).length ≤ 6 ∧ (normTxt r s).size ≤ 64) := by
  by_cases h0 : checkV r = 0
  · by_cases hv : validB s = true
    · by_cases hl : 6 < (normToks r s).length ∨ 64 < (normTxt r s).size
      · exact .inl ⟨1, by decide, norm_limit s h0 hv hl⟩
      · exact .inr ⟨norm_fine s h0 hv hl, h0, check_zero h0, hv, by omega, by omega⟩
    · exact .inl ⟨3, by decide, norm_text s h0 (by simpa using hv)⟩
  · exact .inl ⟨_, h0, norm_check s rfl h0⟩
theorem left1_lows (r : RL) {t : ByteArray} (h : TM.lows t.data.toList) : left1 r t.data.toList = keep1 r t := by
  have hl : lettersOf t.data.toList = t := by
    apply ba_ext
    unfold lettersOf
    rw [list_bs]
    exact List.filter_eq_self.2 (List.all_eq_true.1 h.2)
  have hne : t.toList.isEmpty = false := by
    rw [Lib.toList_data]
    simpa using h.1
  unfold keep1
  cases hd : hasB r.titles t
  · exact left1_some r _ t hl hne hd
  · exact left1_drop r _ t hl hd
theorem tok_lows {s : ByteArray} (h : tokB s = true) : TM.lows s.data.toList := by
  unfold tokB at h
  simp only [Bool.and_eq_true, Bool.not_eq_true', Lib.toList_data] at h
  exact ⟨by simpa using h.1, h.2.2⟩
/-- A token of a normal form stays as it is. -/
theorem left_stays {r : RL} (hr : rightB r = true) (ws : List (List UInt8)) : ∀ y ∈ leftB r ws, TM.lows y.data.toList ∧ keep1 r y = [y] := by
  intro y hy
  unfold leftB at hy
  obtain ⟨t, ht, hy⟩ := List.mem_flatMap.1 hy
  unfold left1 at hy
  split at hy
  case isFalse => simp at hy
  case isTrue hc =>
    simp only [Bool.and_eq_true, Bool.not_eq_true', Lib.toList_data] at hc
    have hlows : TM.lows (lettersOf t).data.toList := by
      refine ⟨by simpa using hc.1, ?_⟩
      unfold lettersOf
      rw [list_bs, List.all_eq_true]
      intro c hc
      exact (List.mem_filter.1 hc).2
    obtain rfl : y = canonB r.nicks (lettersOf t) := by simpa using hy
    unfold canonB
    cases hf : r.nicks.find? (fun p => p.1.toList == (lettersOf t).toList) with
    | none =>
      refine ⟨hlows, ?_⟩
      show keep1 r (lettersOf t) = [lettersOf t]
      rw [keep1_stay hc.2]
      unfold canonB
      rw [hf]
    | some p =>
      have hp := List.mem_of_find?_eq_some hf
      obtain ⟨-, h2, h3, h4⟩ := right_to hr p hp
      refine ⟨tok_lows h2, ?_⟩
      show keep1 r p.2 = [p.2]
      rw [keep1_stay h4]
      have : canonB r.nicks p.2 = p.2 := by
        unfold canonB
        have : r.nicks.find? (fun q => q.1.toList == p.2.toList) = none := by
          rw [List.find?_eq_none]
          intro q hq hqe
          have : hasB (froms r.nicks) p.2 = true := by
            rw [hasB_iff]
            rw [eqS_iff] at hqe
            exact hqe ▸ List.mem_map.2 ⟨q, hq, rfl⟩
          rw [this] at h3; cases h3
        rw [this]
      rw [this]
theorem norm_again {r : RL} {s : ByteArray} (h : normVal r s = (normTxt r s, 0)) (hr : rightB r = true) (hlen : (normToks r s).length ≤ 6) (hz : (normTxt r s).size ≤ 64) (hc : checkV r = 0) :
    normVal r (normTxt r s) = (normTxt r s, 0) ∧ TM.words [] (normTxt r s).data.toList = (normToks r s).map (·.data.toList) := by
  have hst := left_stays hr (TM.words [] (TM.fold s.data.toList))
  have hw : TM.words [] (normTxt r s).data.toList = (normToks r s).map (·.data.toList) := by
    unfold normTxt
    rw [list_bs]
    refine TM.words_join _ (fun l hl => ?_)
    obtain ⟨t, ht, rfl⟩ := List.mem_map.1 hl
    exact (hst t ht).1.word_
  have hf : (normTxt r s).data.toList.all TM.fine = true := by
    unfold normTxt
    rw [list_bs]
    refine TM.join_all (by decide) _ (fun l hl => ?_)
    obtain ⟨t, ht, rfl⟩ := List.mem_map.1 hl
    have := (hst t ht).1.2
    rw [List.all_eq_true] at this ⊢
    intro c hc
    simp [TM.fine, this c hc]
  have ht : normToks r (normTxt r s) = normToks r s := by
    show leftB r (TM.words [] (TM.fold (normTxt r s).data.toList)) = _
    rw [TM.words_fold, TM.spell_fine _ hf, hw]
    show leftB r ((leftB r (TM.words [] (TM.fold s.data.toList))).map (·.data.toList)) = leftB r (TM.words [] (TM.fold s.data.toList))
    generalize leftB r (TM.words [] (TM.fold s.data.toList)) = T at hst
    show (T.map (·.data.toList)).flatMap (left1 r) = T
    induction T with
    | nil => rfl
    | cons a t ih =>
      rw [List.map_cons, List.flatMap_cons, left1_lows r (hst a (by simp)).1, (hst a (by simp)).2, ih (fun y hy => hst y (by simp [hy]))]
      rfl
  have hx : normTxt r (normTxt r s) = normTxt r s := by
    show bs (TM.join ((normToks r (normTxt r s)).map (·.data.toList))) = _
    rw [ht]; rfl
  exact ⟨by rw [norm_fine _ hc (valid_fine hf hz) (by rw [ht, hx]; omega), hx], hw⟩

set_option maxRecDepth 100000 in
set_option maxHeartbeats 4000000 in
theorem NameIdempotent_walk (A : Option Addr) (n c : Nat) (w : World) (hE : Env w) (hI : IntsArg w A n c) :
    Calls Tryd.prog 4 #[.slice A n c] w fun e w' => e = .returned (.bool true) ∧ Below w.heap.size w w' := by
  have HE := Lib.hid hE
  have HI := Lib.hid hI
  clear hE hI
  go_enter Tryd.func4, Tryd.ntmps4
  go_wp2_with fail
  refine (awake2_any w HE.out).mono ?_
  rintro e w1 ⟨rfl, b1⟩
  go_wp2_with fail
  refine (Few_any A n c w1 (Nat.le_trans HI.out.1 HI.out.2.1)).mono ?_
  rintro e w1' ⟨rfl, rfl⟩
  have hE1 := Lib.hid (HE.out.below b1 HE.out.size)
  by_cases hn : n ≤ 400
  · have hd : decide (n ≤ 400) = true := by simp [hn]
    rw [hd]
    clear hd
    go_wp2_with fail
    refine (New_any A n c w1 (HI.out.below b1)).mono ?_
    rintro e w2 ⟨rfl, hd2, b2⟩
    generalize hg : w1.heap.size = g at *
    have HG := Lib.hid hg
    clear hg
    have hgw : w.heap.size ≤ g := by rw [← HG.out]; exact b1.size
    go_wp2_with fail
    refine (Bent_any g w2 hd2).mono ?_
    rintro e w3 ⟨v, r, rfl, hr, hd3, g3⟩
    have b3 : Below w.heap.size w w3 := (b1.trans (b2.mono hgw)).trans (below_of_grown g3 hgw (Nat.le_trans hgw (Nat.le_of_lt hd2.lt)))
    have hr0 := hr
    obtain ⟨tv, nv, sv, rfl, ⟨ta, tc, htv, -, -, -⟩, ⟨na, nc, hnv, -, -, -⟩, ⟨ua, uc, hsv, -, -, -⟩⟩ := hr
    have b4 : Below w.heap.size w (w3.alloc (.cells #[tv, nv, sv] 26)) := b3.alloc b3.size _
    have HR := Lib.hid (hr0.keep (below_alloc w3 (.cells #[tv, nv, sv] 26)))
    have HB := Lib.hid (Box.new w3 tv nv sv)
    have hd4 := hd3.alloc (.cells #[tv, nv, sv] 26)
    have hp : w3.heap.size < (w3.alloc (.cells #[tv, nv, sv] 26)).heap.size := by simp
    have hpg : w3.heap.size ≠ g := by have := hd3.lt; omega
    clear hr0
    obtain ⟨W0, hW0⟩ : ∃ W, w3.alloc (.cells #[tv, nv, sv] 26) = W := ⟨_, rfl⟩
    subst htv hnv hsv
    rw [hW0] at b4 HR HB hd4 hp
    go_wp2_with fail
    clear hW0
    generalize Value.slice ta r.titles.length tc = tv at *
    generalize Value.slice na r.nicks.length nc = nv at *
    generalize Value.slice ua r.streets.length uc = sv at *
    generalize hpp : w3.heap.size = p at *
    have HPp := Lib.hid hpp
    clear hpp
    have hszp : p ≤ W0.heap.size := Nat.le_of_lt hp
    obtain ⟨c0, c1, c2⟩ := HB.out
    go_region_held3 (fun w' => w'.cell? ⟨p, 0, none⟩ = some tv ∧ w'.cell? ⟨p, 1, none⟩ = some nv ∧ w'.cell? ⟨p, 2, none⟩ = some sv)
      (first | go_keep | exact hS6 | exact hS5)
      (first
        | (go_at_call 17
           refine (Text_any g _ (show Deck g W0.drew from hd4)).mono ?_
           rintro e w5 ⟨s0, rfl, hs0, hd5, g5⟩
           have g5' : W0.grownBy w5 (some g) := drew_grown g5
           have hS5 : Box w5 p tv nv sv := HB.out.grown g5' hp hpg
           have b5 : Below w.heap.size w w5 := b4.trans (below_of_grown g5' hgw b4.size))
        | (go_at_call 19
           refine (Normalise_any p _ r s0 w5 (HE.out.below b5 HE.out.size) (HR.out.grown hd4 g5' hszp) (Nat.le_trans hszp g5'.size) (by unfold maxLen; omega)).mono ?_
           rintro e w6 ⟨rfl, b6⟩
           have hS6 : Box w6 p tv nv sv := Box.below hS5 b6 (Nat.lt_of_lt_of_le hp g5'.size)
           obtain ⟨⟨x, c⟩, hxc⟩ : ∃ q, normVal r s0 = q := ⟨_, rfl⟩
           have HXC := Lib.hid hxc
           rw [hxc]
           clear hxc
           unfold normRet))
    have b6' : Below w.heap.size w w6 := b5.trans (b6.mono b5.size)
    have hsz6 : p < w6.heap.size := Nat.lt_of_lt_of_le (Nat.lt_of_lt_of_le hp g5'.size) b6.size
    have HR6 := Lib.hid ((HR.out.grown hd4 g5' hszp).keep (b6.mono (Nat.le_trans hszp g5'.size)))
    have HS6 := Lib.hid hS6
    clear hS5 hS6 c0 c1 c2
    rename_i hHeld
    clear hHeld
    rcases norm_cases r s0 with ⟨c', hc', he⟩ | ⟨he, hck, hri, hv, hl, hz⟩
    · rw [HXC.out] at he
      obtain ⟨rfl, rfl⟩ := Prod.mk.inj he
      have t0 : (c != 0) = true := by simp [hc']
      clear he hc' HXC
      unfold noB
      go_wp2
      go_ret
      exact ⟨rfl, b6'⟩
    · have hxz : x = normTxt r s0 ∧ c = 0 := by
        have := he
        rw [HXC.out] at this
        exact Prod.mk.inj this
      obtain ⟨hag, hwd⟩ := norm_again he hri hl hz hck
      obtain ⟨hx, rfl⟩ := hxz
      rw [← hx] at hag hwd hz
      have HAG := Lib.hid hag
      have HWD := Lib.hid hwd
      have HL := Lib.hid hl
      clear hag hwd hx he hl HXC
      have hN2 := Normalise_any p _ r x w6 (HE.out.below b6' HE.out.size) HR6.out (Nat.le_of_lt hsz6) (by unfold maxLen; omega)
      rw [HAG.out] at hN2
      unfold normRet at hN2
      have HN2 := Lib.hid hN2
      clear hN2
      obtain ⟨c0, c1, c2⟩ := HS6.out
      go_wp2_with fail
      refine HN2.out.mono ?_
      rintro e w7 ⟨rfl, b7⟩
      have b7' := b6'.trans (b7.mono b6'.size)
      have hNm := Normal_any p _ r x w7 (HE.out.below b7' HE.out.size) (HR6.out.keep (b7.mono (Nat.le_of_lt hsz6))) (Nat.le_trans (Nat.le_of_lt hsz6) b7.size) (by unfold maxLen; omega)
      rw [show normalB r x = true by unfold normalB; rw [HAG.out]; simp] at hNm
      have HNm := Lib.hid hNm
      clear hNm c0 c1 c2
      obtain ⟨c0, c1, c2⟩ := HS6.out.below b7 hsz6
      go_wp2_with fail
      refine HNm.out.mono ?_
      rintro e w8 ⟨rfl, b8⟩
      have b8' := b7'.trans (b8.mono b7'.size)
      clear c0 c1 c2
      go_wp2_with fail
      refine (rTokens_any x w8 (by omega)).mono ?_
      rintro e w9 ⟨u, rfl, ⟨xs, ⟨ua2, uc2, rfl, -, -, -⟩, hxl⟩, b9⟩
      have hlen : xs.length ≤ 6 := by
        have h1 := congrArg List.length hxl
        rw [HWD.out] at h1
        simp only [List.length_map] at h1
        have := HL.out
        omega
      clear hxl
      go_wp2
      go_ret
      exact ⟨ret_bool (by simp; omega), b8'.trans (b9.mono b8'.size)⟩
  · have hd : decide (n ≤ 400) = false := by simp; omega
    rw [hd]
    clear hd
    go_wp2_with fail
    refine (awake2_any w1 hE1.out).mono ?_
    rintro e w2 ⟨rfl, b2⟩
    go_wp2
    go_ret
    exact ⟨rfl, b1.trans (b2.mono b1.size)⟩
end Go.Proofs.YtfdlmneahanboaaDoor
