/- The walks of TextDress and TextIdempotent. -/
import Derived.Test.YthkekcjgnlccdaaDoorLawsA
namespace Go.Proofs.YthkekcjgnlccdaaDoor
open Go.RowKit

theorem soft_pair {a b : List UInt8} (la : TM.lows a) (lb : TM.lows b) : (a ++ 32 :: b).all TM.soft = true := by
  rw [List.all_append, List.all_cons, TM.soft_of a la.2, TM.soft_of b lb.2]; rfl
/-- A dressed couple of words: too long, or folded to the words. -/
theorem dressed_val {ta tb r : ByteArray} (la : TM.lows ta.data.toList) (lb : TM.lows tb.data.toList) (hd : Dressed (ta ++ ⟨#[32]⟩ ++ tb : ByteArray).data.toList r.data.toList) :
    foldVal r = if r.size ≤ 64 then .tuple #[.string (ta ++ ⟨#[32]⟩ ++ tb), .int .i64 0] else .tuple #[.string ⟨#[]⟩, .int .i64 3] := by
  obtain ⟨pre, body, post, hr, hpre, hpost, hb⟩ := hd
  rw [spaced] at hb
  have hs := soft_pair la lb
  by_cases hz : r.size ≤ 64
  · rw [if_pos hz]
    refine foldVal_plain ?_ hz ?_
    · rw [hr, List.all_append, List.all_append, TM.plain_drs _ _ hb hs]
      rcases hpre with rfl | rfl | rfl <;> rcases hpost with rfl | rfl | rfl <;> decide
    · rw [hr, TM.fold_dressed _ pre body post hs hb hpre hpost, TM.words_two_of _ _ la.2 lb.2 la.1 lb.1, spaced]; rfl
  · rw [if_neg hz]
    have hv : validB r = false := by simp [validB, TM.valid]; intro h; omega
    unfold foldVal
    rw [hv, if_neg (by simp)]

set_option maxHeartbeats 1000000 in
theorem TextDress_walk (A : Option Addr) (n c : Nat) (w : World) (hE : Env w) (hI : IntsArg w A n c) :
    Calls Tryd.prog 5 #[.slice A n c] w fun e w' => e = .returned (.bool true) ∧ Below w.heap.size w w' := by
  have HE := Lib.hid hE
  have HI := Lib.hid hI
  clear hE hI
  go_enter Tryd.func5, Tryd.ntmps5
  go_wp2_with fail
  refine (awake_any w HE.out).mono ?_
  rintro e w1 ⟨rfl, b1⟩
  go_wp2_with fail
  refine (Few_any A n c w1 (Nat.le_trans HI.out.1 HI.out.2.1)).mono ?_
  rintro e w1' ⟨rfl, rfl⟩
  have hE1 := Lib.hid (HE.out.below b1 HE.out.size)
  by_cases hn : n ≤ 400
  · have hd : decide (n ≤ 400) = true := by simp [hn]
    rw [hd]
    clear hd
    go_wp2_with fail
    refine (New_any A n c w1 (HI.out.below b1)).mono ?_
    rintro e w2 ⟨rfl, hd2, b2⟩
    generalize hg : w1.heap.size = g at *
    have HG := Lib.hid hg
    clear hg
    go_wp2_with fail
    refine (Token_any g w2 hd2).mono ?_
    rintro e w3 ⟨ta, rfl, hta, hd3, g3⟩
    obtain ⟨la, za⟩ := low_lows hta
    clear hta
    go_wp2_with fail
    refine (Token_any g w3 hd3).mono ?_
    rintro e w4 ⟨tb, rfl, htb, hd4, g4⟩
    obtain ⟨lb, zb⟩ := low_lows htb
    clear htb
    have LA := Lib.hid la
    have LB := Lib.hid lb
    clear la lb
    have hgw : w.heap.size ≤ g := by rw [← HG.out]; exact b1.size
    have b4 : Below w.heap.size w w4 := (b1.trans (b2.mono hgw)).trans (below_of_grown (grown_trans g3 g4) hgw (Nat.le_trans hgw (Nat.le_of_lt hd2.lt)))
    go_wp2_with fail
    have hz : (ta ++ ⟨#[32]⟩ ++ tb : ByteArray).size ≤ 17 := by rw [size_add, size_add]; show _ + 1 + _ ≤ _; omega
    refine (rFold_is _ _ w4 (by omega) (space_val LA.out LB.out za zb)).mono ?_
    rintro e w5 ⟨rfl, b5⟩
    have hd5 := hd4.below b5 hd4.lt
    have b5' : Below w.heap.size w w5 := b4.trans (b5.mono b4.size)
    go_wp2_with fail
    refine (Dress_any g w5 hd5 _ (by omega)).mono ?_
    rintro e w6 ⟨r, rfl, hrz, hdr, hd6, g6⟩
    have b6 : Below w.heap.size w w6 := b5'.trans (below_of_grown g6 hgw b5'.size)
    have hE6 := Lib.hid (HE.out.below b6 HE.out.size)
    have hval := Lib.hid (dressed_val LA.out LB.out hdr)
    clear hdr
    have hz1 := hz
    clear hz
    go_wp2_with fail
    by_cases hz : r.size ≤ 64
    · refine (Fold_is _ _ w6 hE6.out (by omega) (hval.out.trans (if_pos hz))).mono ?_
      rintro e w7 ⟨rfl, b7⟩
      have hgt : ¬ (64 : Int) < (r.size : Int) := by omega
      go_wp2
      go_ret
      exact ⟨rfl, b6.trans (b7.mono b6.size)⟩
    · refine (Fold_is _ _ w6 hE6.out (by omega) (hval.out.trans (if_neg hz))).mono ?_
      rintro e w7 ⟨rfl, b7⟩
      have hgt : (64 : Int) < (r.size : Int) := by omega
      go_wp2
      go_ret
      exact ⟨rfl, b6.trans (b7.mono b6.size)⟩
  · have hd : decide (n ≤ 400) = false := by simp; omega
    rw [hd]
    clear hd
    go_wp2_with fail
    refine (awake_any w1 hE1.out).mono ?_
    rintro e w2 ⟨rfl, b2⟩
    go_wp2
    go_ret
    exact ⟨rfl, b1.trans (b2.mono b1.size)⟩

/-- What is folded has no space at its ends, nor two next to each other: at each place. -/
theorem inner (l : List UInt8) (s : ByteArray) (hs : s = bs (TM.fold l)) (k : Nat) (h : k < s.size) (h32 : (s[k].toNat : Int) = 32) : 0 < k ∧ ∃ h1 : k + 1 < s.size, ¬ (s[k + 1].toNat : Int) = 32 := by
  have hl : s.data.toList = TM.fold l := by rw [hs, list_bs]
  obtain ⟨_, i2⟩ := TM.join_inner (TM.words [] (TM.spell l)) (TM.words_word _ _ (by simp))
  have e : (TM.fold l)[k]? = some s[k] := by
    rw [← hl, List.getElem?_eq_getElem (by simpa using h)]; rfl
  obtain ⟨h0, d, hd, hn⟩ := i2 k s[k] e (by omega)
  refine ⟨h0, ?_⟩
  have hd' : s.data.toList[k + 1]? = some d := by rw [hl]; exact hd
  obtain ⟨h1, h2⟩ := List.getElem?_eq_some_iff.1 hd'
  have h1' : k + 1 < s.size := by simpa using h1
  refine ⟨h1', ?_⟩
  have : s[k + 1] = d := h2
  rw [this]
  omega
theorem fold_len (l : List UInt8) : (TM.fold l).length ≤ l.length := by
  have h1 := (words_len (TM.spell l) []).2
  have h2 := spell_len l
  unfold TM.fold
  simp at h1
  omega
theorem folded_val (s : ByteArray) (hv : validB s = true) : foldVal (bs (TM.fold s.data.toList)) = .tuple #[.string (bs (TM.fold s.data.toList)), .int .i64 0] ∧ foldedB (bs (TM.fold s.data.toList)) = true ∧ (bs (TM.fold s.data.toList)).size ≤ 64 := by
  have hok : TM.ok s.data.toList = true ∧ s.data.toList.length ≤ 64 := by
    unfold validB TM.valid at hv
    simp only [Bool.and_eq_true, decide_eq_true_eq] at hv
    exact ⟨hv.2, hv.1⟩
  have hl := fold_len s.data.toList
  have hz : (bs (TM.fold s.data.toList)).size ≤ 64 := by
    have : (bs (TM.fold s.data.toList)).size = (TM.fold s.data.toList).length := size_of_list _
    omega
  have hp : (bs (TM.fold s.data.toList)).data.toList.all TM.plain = true := by rw [list_bs]; exact TM.fine_plain _ (TM.fold_fine _ hok.1)
  have hf : TM.fold (bs (TM.fold s.data.toList)).data.toList = (bs (TM.fold s.data.toList)).data.toList := by rw [list_bs, TM.fold_fold _ hok.1]
  refine ⟨foldVal_plain hp hz hf, ?_, hz⟩
  unfold foldedB
  rw [valid_plain hp hz, hf]
  simp

set_option maxHeartbeats 1000000 in
theorem TextIdempotent_walk (A : Option Addr) (n c : Nat) (w : World) (hE : Env w) (hI : IntsArg w A n c) :
    Calls Tryd.prog 4 #[.slice A n c] w fun e w' => e = .returned (.bool true) ∧ Below w.heap.size w w' := by
  have HE := Lib.hid hE
  have HI := Lib.hid hI
  clear hE hI
  go_enter Tryd.func4, Tryd.ntmps4
  go_wp2_with fail
  refine (awake_any w HE.out).mono ?_
  rintro e w1 ⟨rfl, b1⟩
  go_wp2_with fail
  refine (Few_any A n c w1 (Nat.le_trans HI.out.1 HI.out.2.1)).mono ?_
  rintro e w1' ⟨rfl, rfl⟩
  have hE1 := Lib.hid (HE.out.below b1 HE.out.size)
  by_cases hn : n ≤ 400
  · have hd : decide (n ≤ 400) = true := by simp [hn]
    rw [hd]
    clear hd
    go_wp2_with fail
    refine (New_any A n c w1 (HI.out.below b1)).mono ?_
    rintro e w2 ⟨rfl, hd2, b2⟩
    generalize hg : w1.heap.size = g at *
    have HG := Lib.hid hg
    clear hg
    go_wp2_with fail
    refine (Text_any g w2 hd2).mono ?_
    rintro e w3 ⟨t, rfl, ht, hd3, g3⟩
    have hgw : w.heap.size ≤ g := by rw [← HG.out]; exact b1.size
    have b3 : Below w.heap.size w w3 := (b1.trans (b2.mono hgw)).trans (below_of_grown g3 hgw (Nat.le_trans hgw (Nat.le_of_lt hd2.lt)))
    have hE3 := Lib.hid (HE.out.below b3 HE.out.size)
    go_wp2_with fail
    by_cases hv : validB t = true
    · have hfv : foldVal t = .tuple #[.string (bs (TM.fold t.data.toList)), .int .i64 0] := by simp [foldVal, hv]
      obtain ⟨q1, q2, q3⟩ := folded_val t hv
      have hin := inner t.data.toList (bs (TM.fold t.data.toList)) rfl
      generalize bs (TM.fold t.data.toList) = s at *
      have Q1 := Lib.hid q1
      have Q2 := Lib.hid q2
      have IN := Lib.hid hin
      have FV := Lib.hid hfv
      clear q1 q2 hin hfv hv
      refine (Fold_is _ _ w3 hE3.out (by omega) FV.out).mono ?_
      rintro e w4 ⟨rfl, b4⟩
      have hE4 := Lib.hid (hE3.out.below b4 hE3.out.size)
      go_wp2_with fail
      refine (Fold_is _ _ w4 hE4.out (by omega) Q1.out).mono ?_
      rintro e w5 ⟨rfl, b5⟩
      have hE5 := Lib.hid (hE4.out.below b5 hE4.out.size)
      have b5' : Below w.heap.size w w5 := b3.trans ((b4.trans (b5.mono b4.size)).mono b3.size)
      go_wp2
      go_loop [8] (fun i => ∃ k : Nat, k ≤ s.size ∧ i = .int .i64 k) (fun i => s.size - (intOf i).toNat)
      case atStart => exact ⟨0, by omega, rfl⟩
      case round =>
        obtain ⟨k, hk, rfl⟩ := hrel
        by_cases hlt : k < s.size
        · by_cases h32 : (s[k].toNat : Int) = 32
          · obtain ⟨h0, h1, hn32⟩ := IN.out k hlt h32
            have t32 : ((s[k].toNat : Int) == 32) = true := by simp [h32]
            have t0 : ((k : Int) == 0) = false := by simp; omega
            have t1 : ((k : Int) + 1 == (s.size : Int)) = false := by simp; omega
            have t2 : ((s[k + 1].toNat : Int) == 32) = false := by simp; omega
            clear h32 hn32
            go_wp2
            exact ⟨⟨k + 1, by omega, by go_num⟩, by simp [intOf]; omega⟩
          · have t32 : ((s[k].toNat : Int) == 32) = false := by simp; omega
            clear h32
            go_wp2
            exact ⟨⟨k + 1, by omega, by go_num⟩, by simp [intOf]; omega⟩
        · go_wp2_with fail
          refine (Folded_any s w5 hE5.out (by unfold maxLen; omega)).mono ?_
          rintro e w6 ⟨rfl, b6⟩
          rw [Q2.out]
          go_wp2
          go_ret
          exact ⟨ret_bool (by simp; omega), b5'.trans (b6.mono b5'.size)⟩
    · have hfv : foldVal t = .tuple #[.string ⟨#[]⟩, .int .i64 3] := by simp [foldVal, hv]
      have FV := Lib.hid hfv
      clear hfv hv
      refine (Fold_is _ _ w3 hE3.out (by omega) FV.out).mono ?_
      rintro e w4 ⟨rfl, b4⟩
      go_wp2
      go_ret
      exact ⟨rfl, b3.trans (b4.mono b3.size)⟩
  · have hd : decide (n ≤ 400) = false := by simp; omega
    rw [hd]
    clear hd
    go_wp2_with fail
    refine (awake_any w1 hE1.out).mono ?_
    rintro e w2 ⟨rfl, b2⟩
    go_wp2
    go_ret
    exact ⟨rfl, b1.trans (b2.mono b1.size)⟩
end Go.Proofs.YthkekcjgnlccdaaDoor
