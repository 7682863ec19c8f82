/- The walk of GramChange. -/
import Derived.Test.YtjdjjehdognpiaaDoorGramLaw1
namespace Go.Proofs.YtjdjjehdognpiaaDoor
open Go.RowKit
set_option linter.unusedVariables false
set_option maxRecDepth 100000

theorem lit_cell (w : World) (X : List ByteArray) (i : Nat) (hi : i < X.length) : (w.alloc (.cells (X.map Value.string).toArray 9)).cell? ⟨w.heap.size, i, none⟩ = some (.string X[i]) := by
  rw [cell_of_row _ _ _ _ _ _ (heap_alloc_new w _)]
  simp [hi]
theorem extract_front (s : ByteArray) (k : Nat) : (s.extract 0 k).data.toList = s.data.toList.take k := by
  rw [Lib.extract_data]
  simp
theorem lower_word {l : List UInt8} (h0 : l ≠ []) (h : l.all TM.lower = true) : TM.word l := TM.lows.word_ ⟨h0, h⟩
/-- The three texts: a byte is changed, put in, left out. -/
theorem change_texts {s : ByteArray} (hs : lowB s = true) {k : Nat} (hk : k < s.size) {x : UInt8} (hx : TM.lower x = true) :
    ∀ T ∈ [s.extract 0 k ++ ⟨#[x]⟩ ++ s.extract (k + 1) s.size, s.extract 0 k ++ ⟨#[x]⟩ ++ s.extract k s.size, s.extract 0 k ++ s.extract (k + 1) s.size],
      T.size ≤ 9 ∧ ((!T.toList.isEmpty) = true → (GM.gramsL s.data.toList).length ≤ GM.commonN (GM.gramsL s.data.toList) (GM.gramsL T.data.toList) + 2) := by
  have hl := low_lows hs
  have hlen : s.data.toList.length = s.size := size_list s
  have hkl : k < s.data.toList.length := by omega
  have e0 : s.data.toList = s.data.toList.take k ++ s.data.toList[k] :: s.data.toList.drop (k + 1) := by
    rw [← List.drop_eq_getElem_cons hkl, List.take_append_drop]
  have e1 : s.data.toList.drop k = s.data.toList[k] :: s.data.toList.drop (k + 1) := List.drop_eq_getElem_cons hkl
  have hall : ∀ l : List UInt8, (∀ c ∈ l, c ∈ s.data.toList ∨ c = x) → l.all TM.lower = true := by
    intro l h
    rw [List.all_eq_true]
    intro c hc
    rcases h c hc with h | h
    · exact List.all_eq_true.1 hl.1.2 c h
    · rw [h]; exact hx
  obtain ⟨p, hp⟩ : ∃ p, p = s.data.toList.take k := ⟨_, rfl⟩
  obtain ⟨c, hc⟩ : ∃ c, c = s.data.toList[k] := ⟨_, rfl⟩
  obtain ⟨q, hq⟩ : ∃ q, q = s.data.toList.drop (k + 1) := ⟨_, rfl⟩
  have hpl : p.length + q.length + 1 = s.size := by rw [hp, hq, List.length_take, List.length_drop]; omega
  have hps : ∀ a ∈ p, a ∈ s.data.toList := fun a ha => List.mem_of_mem_take (hp ▸ ha)
  have hqs : ∀ a ∈ q, a ∈ s.data.toList := fun a ha => List.mem_of_mem_drop (hq ▸ ha)
  have hcs : c ∈ s.data.toList := by rw [hc]; exact List.getElem_mem hkl
  rw [← hp, ← hc, ← hq] at e0
  rw [← hc, ← hq] at e1
  have key : ∀ T : ByteArray, ∀ r : List UInt8, T.data.toList = r → (r = p ++ q ∨ (∃ x, r = p ++ x :: q) ∨ (∃ x, r = p ++ x :: c :: q)) → (∀ a ∈ r, a ∈ s.data.toList ∨ a = x) →
      T.size ≤ 9 ∧ ((!T.toList.isEmpty) = true → (GM.gramsL s.data.toList).length ≤ GM.commonN (GM.gramsL s.data.toList) (GM.gramsL T.data.toList) + 2) := by
    intro T r hT hr hm
    have hrl : r.length ≤ 9 := by
      have := hl.2
      rcases hr with rfl | ⟨y, rfl⟩ | ⟨y, rfl⟩
      · rw [List.length_append]; omega
      · rw [List.length_append, List.length_cons]; omega
      · rw [List.length_append, List.length_cons, List.length_cons]; omega
    refine ⟨by rw [← size_list, hT]; exact hrl, fun hne => ?_⟩
    have hrn : r ≠ [] := by rw [← hT]; exact full_list T hne
    have hw1 : TM.word (p ++ c :: q) := by rw [← e0]; exact hl.1.word_
    have hw2 := lower_word hrn (hall r hm)
    have hlp : (p ++ c :: q).length ≤ 64 := by rw [← e0, hlen]; have := hl.2; omega
    have hh := GM.change_two p c q r hr hw1 hw2 hlp (by omega)
    rw [← e0] at hh
    rw [hT]
    exact hh
  have dx : (⟨#[x]⟩ : ByteArray).data.toList = [x] := rfl
  intro T hT
  simp only [List.mem_cons, List.not_mem_nil, or_false] at hT
  rcases hT with rfl | rfl | rfl
  · refine key _ (p ++ x :: q) ?_ (.inr (.inl ⟨x, rfl⟩)) ?_
    · rw [data_add, data_add, extract_front, extract_list, dx, ← hp, ← hq]; simp
    · intro a ha
      rcases List.mem_append.1 ha with h | h
      · exact .inl (hps a h)
      · rcases List.mem_cons.1 h with h | h
        · exact .inr h
        · exact .inl (hqs a h)
  · refine key _ (p ++ x :: c :: q) ?_ (.inr (.inr ⟨x, rfl⟩)) ?_
    · rw [data_add, data_add, extract_front, extract_list, dx, ← hp, e1]; simp
    · intro a ha
      rcases List.mem_append.1 ha with h | h
      · exact .inl (hps a h)
      · rcases List.mem_cons.1 h with h | h
        · exact .inr h
        · rcases List.mem_cons.1 h with h | h
          · exact .inl (h ▸ hcs)
          · exact .inl (hqs a h)
  · refine key _ (p ++ q) ?_ (.inl rfl) ?_
    · rw [data_add, extract_front, extract_list, ← hp, ← hq]
    · intro a ha
      rcases List.mem_append.1 ha with h | h
      · exact .inl (hps a h)
      · exact .inl (hqs a h)

set_option maxHeartbeats 4000000 in
theorem GramChange_walk (A : Option Addr) (n c : Nat) (ka kb : UInt8) (w : World) (hE : Env w) (hI : IntsArg w A n c) :
    Calls Tryd.prog 5 #[.slice A n c, .int .u8 ka.toNat, .int .u8 kb.toNat] w fun e w' => e = .returned (.bool true) ∧ Below w.heap.size w w' := by
  have HE := Lib.hid hE
  have HI := Lib.hid hI
  clear hE hI
  have hka := ka.toNat_lt
  have hkb := kb.toNat_lt
  obtain ⟨m, hm⟩ : ∃ m : Nat, m = kb.toNat % 26 := ⟨_, rfl⟩
  have hm26 : m < 26 := by omega
  have hmod : (kb.toNat : Int) % 26 = (m : Int) := by omega
  obtain ⟨x, hx⟩ : ∃ x : UInt8, x.toNat = 97 + m := ⟨UInt8.ofNat (97 + m), by rw [UInt8.toNat_ofNat']; omega⟩
  have k1 : ∀ W : World, _ := fun W => conv1 W x (97 + (m : Int)) (by omega)
  have HXN := Lib.hid hx
  clear hm hx
  go_enter Tryd.func5, Tryd.ntmps5
  go_wp2_with fail
  refine (awake5_any w HE.out).mono ?_
  rintro e w1 ⟨rfl, b1⟩
  go_wp2_with fail
  refine (Few_any A n c w1 (Nat.le_trans HI.out.1 HI.out.2.1)).mono ?_
  rintro e w1' ⟨rfl, rfl⟩
  have hE1 := Lib.hid (HE.out.below b1 HE.out.size)
  by_cases hn : n ≤ 400
  · have hd : decide (n ≤ 400) = true := by simp [hn]
    rw [hd]
    clear hd
    go_wp2_with fail
    refine (New_any A n c w1 (HI.out.below b1)).mono ?_
    rintro e w2 ⟨rfl, hd2, b2⟩
    generalize hg : w1.heap.size = g at *
    have HG := Lib.hid hg
    clear hg
    have hgw : w.heap.size ≤ g := by rw [← HG.out]; exact b1.size
    have b2' : Below w.heap.size w w2 := b1.trans (b2.mono hgw)
    go_wp2_with fail
    refine (Token_any g w2 hd2).mono ?_
    rintro e w3 ⟨s, rfl, hs, hd3, g3⟩
    have b3 : Below w.heap.size w w3 := b2'.trans (below_deck g3 hgw hd2.lt)
    have hz8 := low_size hs
    have hz1 : 1 ≤ s.size := by
      have := List.length_pos_iff.2 (low_lows hs).1.1
      rw [size_list] at this
      exact this
    have HLow := Lib.hid hs
    obtain ⟨k, hk⟩ : ∃ k : Nat, k = ka.toNat % s.size := ⟨_, rfl⟩
    have hks : k < s.size := by rw [hk]; exact Nat.mod_lt _ (by omega)
    have hkm : (ka.toNat : Int) % (s.size : Int) = (k : Int) := by rw [hk]; push_cast; rfl
    have hsz0 : ¬ (s.size : Int) = 0 := by omega
    clear hs hd2 hd3 hk
    go_wp2_with fail
    rw [hkm]
    clear hkm
    have b4 : Below w.heap.size w (w3.alloc (.cells #[.int .u8 (97 + (m : Int))] 5)) := b3.alloc b3.size _
    have HGr := Lib.hid (fun (W : World) (hW : Env W) => Grams_any s W hW (by omega))
    have hgl := GM.grams_le s.data.toList
    have HF := Lib.hid (fit_two (GM.grams_two s.data.toList))
    refine (HGr.out _ (HE.out.below b4 HE.out.size)).mono ?_
    rintro e w5 ⟨v5, rfl, o5, b5⟩
    have b5' := b4.trans (b5.mono b4.size)
    have HO5 := Lib.hid o5
    obtain ⟨a5, c5, rfl, hc1, hc2, -⟩ := owns_read o5
    unfold maxLen at hc2
    clear o5
    have hk1 : k ≤ s.size := by omega
    have hk2 : k + 1 ≤ s.size := by omega
    have q1 : (s.extract 0 k).size = k := by rw [ByteArray.size_extract]; omega
    have q2 : (s.extract (k + 1) s.size).size = s.size - (k + 1) := by rw [ByteArray.size_extract]; omega
    have q3 : (s.extract k s.size).size = s.size - k := by rw [ByteArray.size_extract]; omega
    go_wp2_with fail
    go_region
    clear q1 q2 q3 hk1 hk2
    have hlx : TM.lower x = true := by
      have := HXN.out
      unfold TM.lower
      simp
      omega
    have HCT := Lib.hid (change_texts HLow.out hks hlx)
    clear hlx
    obtain ⟨T1, hT1⟩ : ∃ T, s.extract 0 k ++ ⟨#[x]⟩ ++ s.extract (k + 1) s.size = T := ⟨_, rfl⟩
    obtain ⟨T2, hT2⟩ : ∃ T, s.extract 0 k ++ ⟨#[x]⟩ ++ s.extract k s.size = T := ⟨_, rfl⟩
    obtain ⟨T3, hT3⟩ : ∃ T, s.extract 0 k ++ s.extract (k + 1) s.size = T := ⟨_, rfl⟩
    rw [hT1, hT2, hT3] at HCT
    rw [hT1, hT2, hT3]
    clear hT1 hT2 hT3
    obtain ⟨X, hX⟩ : ∃ X : List ByteArray, [T1, T2, T3] = X := ⟨_, rfl⟩
    have hXl : X.length = 3 := by rw [← hX]; rfl
    have hcell : ∀ i, ∀ hi : i < X.length, (w5.alloc (.cells #[.string T1, .string T2, .string T3] 9)).drew.cell? ⟨w5.heap.size, i, none⟩ = some (.string X[i]) := by
      intro i hi
      subst hX
      exact lit_cell w5 [T1, T2, T3] i hi
    rw [hX] at HCT
    have b6 : Below w5.heap.size w5 (w5.alloc (.cells #[.string T1, .string T2, .string T3] 9)).drew := below_drew ((Below.refl _ w5).alloc (Nat.le_refl _) _)
    have hs6 : w5.heap.size < (w5.alloc (.cells #[.string T1, .string T2, .string T3] 9)).drew.heap.size := by
      show w5.heap.size < (w5.alloc _).heap.size
      simp
    have HCE := Lib.hid hcell
    have HXL := Lib.hid hXl
    clear hcell hX hXl
    generalize (w5.alloc (.cells #[.string T1, .string T2, .string T3] 9)).drew = W at *
    generalize hq5 : w5.heap.size = q5 at *
    have HQ5 := Lib.hid hq5
    clear hq5
    have b6' : Below w.heap.size w W := b5'.trans (b6.mono (by rw [← HQ5.out]; exact b5'.size))
    have HO6 := Lib.hid (HO5.out.below (by rw [HQ5.out]; exact b6))
    clear HO5
    generalize GM.gramsL s.data.toList = GS at *
    go_wp2
    go_loopw [67] (fun i wr => ∃ j : Nat, j ≤ 3 ∧ i = .int .i64 j ∧ Below W.heap.size W wr) (fun i _ => 3 - (intOf i).toNat)
    case atStart => exact ⟨0, by omega, rfl, Below.refl _ _⟩
    case round =>
      obtain ⟨j, hj, rfl, hbr⟩ := hrel
      have brw : Below w.heap.size w wr := b6'.trans (hbr.mono b6'.size)
      by_cases hlt : j < 3
      · have hjX : j < X.length := by rw [HXL.out]; exact hlt
        have hcj := (hbr.cell (p := ⟨q5, j, none⟩) hs6).trans (HCE.out j hjX)
        obtain ⟨hTz, hTc⟩ := HCT.out X[j] (List.getElem_mem hjX)
        have HTC := Lib.hid hTc
        clear hTc
        generalize X[j] = T at *
        cases hne : (!T.toList.isEmpty)
        · go_wp2
          exact ⟨⟨j + 1, by omega, by go_num, hbr⟩, by simp [intOf]; omega⟩
        · have hcn := HTC.out hne
          have hgl2 := GM.grams_le T.data.toList
          have HF2 := Lib.hid (fit_two (GM.grams_two T.data.toList))
          have HGT := Lib.hid (Grams_any T wr (HE.out.below brw HE.out.size) (by omega))
          have HOr := Lib.hid (HO6.out.below hbr)
          generalize GM.gramsL T.data.toList = GT at *
          have hcl := GM.common_le GS GT
          have hcs := GM.length_setL GS
          have HCC := Lib.hid (fun (W' : World) (u : Value) (b : Nat) (h1 : OwnsL (w3.alloc (.cells #[.int .u8 (97 + (m : Int))] 5)).heap.size W' (.slice a5 GS.length c5) GS) (h2 : OwnsL b W' u GT) => Common_lists h1 h2 (by omega) (by omega) HF.out HF2.out)
          generalize GM.commonN GS GT = cn at *
          go_wp2_with fail
          refine HGT.out.mono ?_
          rintro e x1 ⟨u1, rfl, p1, d1⟩
          go_wp2_with fail
          refine (HCC.out x1 u1 _ (HOr.out.below d1) p1).mono ?_
          rintro e x2 ⟨rfl, d2⟩
          have hnl : ¬ ((cn : Int) < (GS.length : Int) - 2) := by omega
          go_wp2
          exact ⟨⟨j + 1, by omega, by go_num, hbr.trans ((d1.trans (d2.mono d1.size)).mono hbr.size)⟩, by simp [intOf]; omega⟩
      · obtain rfl : j = 3 := by omega
        go_wp2
        go_ret
        exact ⟨rfl, brw⟩
  · have hd : decide (n ≤ 400) = false := by simp; omega
    rw [hd]
    clear hd
    go_wp2_with fail
    refine (awake5_any w1 hE1.out).mono ?_
    rintro e w2 ⟨rfl, b2⟩
    go_wp2
    go_ret
    exact ⟨rfl, b1.trans (b2.mono b1.size)⟩
end Go.Proofs.YtjdjjehdognpiaaDoor
