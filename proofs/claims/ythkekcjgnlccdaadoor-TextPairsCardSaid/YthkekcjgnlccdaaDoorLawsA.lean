/- The walks of TextParts, TextDress, TextIdempotent. -/
import Derived.Test.YthkekcjgnlccdaaDoorAwake
import Derived.Test.YthkekcjgnlccdaaDoorLawMath
namespace Go.Proofs.YthkekcjgnlccdaaDoor
open Go.RowKit

theorem low_lows {s : ByteArray} (h : lowB s = true) : TM.lows s.data.toList ∧ s.size ≤ 8 := by
  have hz := low_size h
  unfold lowB at h
  simp only [Bool.and_eq_true, decide_eq_true_eq] at h
  exact ⟨⟨List.length_pos_iff.1 h.1.1, h.2⟩, hz⟩
theorem valid_plain {s : ByteArray} (h : s.data.toList.all TM.plain = true) (hl : s.size ≤ 64) : validB s = true := by
  have h2 : s.data.toList.length = s.size := by simp
  unfold validB TM.valid
  rw [TM.ok_all _ h, h2]
  simp [hl]
theorem foldVal_plain {s r : ByteArray} (h : s.data.toList.all TM.plain = true) (hl : s.size ≤ 64) (hf : TM.fold s.data.toList = r.data.toList) : foldVal s = .tuple #[.string r, .int .i64 0] := by
  unfold foldVal
  rw [valid_plain h hl, if_pos rfl, hf, bs_list]
theorem size_list (s : ByteArray) : s.data.toList.length = s.size := by simp
theorem ba_ext {a b : ByteArray} (h : a.data.toList = b.data.toList) : a = b := by
  cases a; cases b
  congr 1
  exact Array.toList_inj.1 h

theorem spaced (ta tb : ByteArray) : (ta ++ ⟨#[32]⟩ ++ tb : ByteArray).data.toList = ta.data.toList ++ 32 :: tb.data.toList := by rw [data_add, data_add]; simp
theorem dash_val {ta tb : ByteArray} (la : TM.lows ta.data.toList) (lb : TM.lows tb.data.toList) (za : ta.size ≤ 8) (zb : tb.size ≤ 8) : foldVal (ta ++ ⟨#[45]⟩ ++ tb) = .tuple #[.string (ta ++ ⟨#[32]⟩ ++ tb), .int .i64 0] := by
  have p1 : (ta ++ ⟨#[45]⟩ ++ tb : ByteArray).data.toList = ta.data.toList ++ [45] ++ tb.data.toList := by rw [data_add, data_add]
  refine foldVal_plain ?_ ?_ ?_
  · rw [p1, List.all_append, List.all_append, TM.plain_lows la, TM.plain_lows lb]; rfl
  · rw [size_add, size_add]; show _ + 1 + _ ≤ _; omega
  · rw [p1, spaced]; exact TM.fold_dash la lb
theorem space_val {ta tb : ByteArray} (la : TM.lows ta.data.toList) (lb : TM.lows tb.data.toList) (za : ta.size ≤ 8) (zb : tb.size ≤ 8) : foldVal (ta ++ ⟨#[32]⟩ ++ tb) = .tuple #[.string (ta ++ ⟨#[32]⟩ ++ tb), .int .i64 0] := by
  have p1 : (ta ++ ⟨#[32]⟩ ++ tb : ByteArray).data.toList = ta.data.toList ++ [32] ++ tb.data.toList := by rw [data_add, data_add]
  refine foldVal_plain ?_ ?_ ?_
  · rw [p1, List.all_append, List.all_append, TM.plain_lows la, TM.plain_lows lb]; rfl
  · rw [size_add, size_add]; show _ + 1 + _ ≤ _; omega
  · rw [p1]; exact (TM.fold_space la lb).trans (by simp)
theorem many_val {ta tb : ByteArray} (la : TM.lows ta.data.toList) (lb : TM.lows tb.data.toList) (za : ta.size ≤ 8) (zb : tb.size ≤ 8) : foldVal (⟨#[32]⟩ ++ ta ++ ⟨#[32, 46, 47, 32]⟩ ++ tb ++ ⟨#[44]⟩) = .tuple #[.string (ta ++ ⟨#[32]⟩ ++ tb), .int .i64 0] := by
  have p1 : ((⟨#[32]⟩ ++ ta ++ ⟨#[32, 46, 47, 32]⟩ ++ tb ++ ⟨#[44]⟩ : ByteArray)).data.toList = [32] ++ ta.data.toList ++ [32, 46, 47, 32] ++ tb.data.toList ++ [44] := by rw [data_add, data_add, data_add, data_add]
  refine foldVal_plain ?_ ?_ ?_
  · rw [p1, List.all_append, List.all_append, List.all_append, List.all_append, TM.plain_lows la, TM.plain_lows lb]; rfl
  · rw [size_add, size_add, size_add, size_add]; show 1 + _ + 4 + _ + 1 ≤ _; omega
  · rw [p1, spaced]; exact TM.fold_many la lb
theorem quote_val {ta tb : ByteArray} (la : TM.lows ta.data.toList) (lb : TM.lows tb.data.toList) (za : ta.size ≤ 8) (zb : tb.size ≤ 8) : foldVal (ta ++ ⟨#[39]⟩ ++ tb) = .tuple #[.string (ta ++ tb), .int .i64 0] := by
  have p1 : (ta ++ ⟨#[39]⟩ ++ tb : ByteArray).data.toList = ta.data.toList ++ [39] ++ tb.data.toList := by rw [data_add, data_add]
  refine foldVal_plain ?_ ?_ ?_
  · rw [p1, List.all_append, List.all_append, TM.plain_lows la, TM.plain_lows lb]; rfl
  · rw [size_add, size_add]; show _ + 1 + _ ≤ _; omega
  · rw [p1, data_add]; exact TM.fold_quote la lb
theorem spaced_words {ta tb : ByteArray} (la : TM.lows ta.data.toList) (lb : TM.lows tb.data.toList) : TM.words [] (ta ++ ⟨#[32]⟩ ++ tb : ByteArray).data.toList = [ta.data.toList, tb.data.toList] := by
  rw [spaced, TM.words_two_of _ _ la.2 lb.2 la.1 lb.1]

/-- Fold where its value is known. -/
theorem Fold_is (s : ByteArray) (v : Value) (w : World) (hE : Env w) (hm : s.size ≤ 1048576) (hv : foldVal s = v) :
    Calls Tryd.prog 16 #[.string s] w fun e w' => e = .returned v ∧ Below w.heap.size w w' := by
  rw [← hv]
  exact Fold_any s w hE (by unfold maxLen; omega)
theorem rFold_is (s : ByteArray) (v : Value) (w : World) (hm : s.size ≤ 1048576) (hv : foldVal s = v) :
    Calls Tryd.prog 17 #[.string s] w fun e w' => e = .returned v ∧ Below w.heap.size w w' := by
  rw [← hv]
  exact rFold_any s w (by unfold maxLen; omega)

set_option maxHeartbeats 1000000 in
theorem TextParts_walk (A : Option Addr) (n c : Nat) (w : World) (hE : Env w) (hI : IntsArg w A n c) :
    Calls Tryd.prog 8 #[.slice A n c] w fun e w' => e = .returned (.bool true) ∧ Below w.heap.size w w' := by
  have HE := Lib.hid hE
  have HI := Lib.hid hI
  clear hE hI
  go_enter Tryd.func8, Tryd.ntmps8
  go_wp2_with fail
  refine (awake_any w HE.out).mono ?_
  rintro e w1 ⟨rfl, b1⟩
  go_wp2_with fail
  refine (Few_any A n c w1 (Nat.le_trans HI.out.1 HI.out.2.1)).mono ?_
  rintro e w1' ⟨rfl, rfl⟩
  have hE1 := Lib.hid (HE.out.below b1 HE.out.size)
  by_cases hn : n ≤ 400
  · have hd : decide (n ≤ 400) = true := by simp [hn]
    rw [hd]
    clear hd
    go_wp2_with fail
    refine (New_any A n c w1 (HI.out.below b1)).mono ?_
    rintro e w2 ⟨rfl, hd2, b2⟩
    generalize hg : w1.heap.size = g at *
    have HG := Lib.hid hg
    clear hg
    go_wp2_with fail
    refine (Token_any g w2 hd2).mono ?_
    rintro e w3 ⟨ta, rfl, hta, hd3, g3⟩
    obtain ⟨la, za⟩ := low_lows hta
    clear hta
    go_wp2_with fail
    refine (Token_any g w3 hd3).mono ?_
    rintro e w4 ⟨tb, rfl, htb, hd4, g4⟩
    obtain ⟨lb, zb⟩ := low_lows htb
    clear htb
    have LA := Lib.hid la
    have LB := Lib.hid lb
    clear la lb
    have hgw : w.heap.size ≤ g := by rw [← HG.out]; exact b1.size
    have b4 : Below w.heap.size w w4 := (b1.trans (b2.mono hgw)).trans (below_of_grown (grown_trans g3 g4) hgw (Nat.le_trans (Nat.le_trans hgw (Nat.le_of_lt hd2.lt)) (Nat.le_refl _)))
    have hE4 := Lib.hid (HE.out.below b4 HE.out.size)
    go_wp2_with fail
    refine (Fold_is _ _ w4 hE4.out (by rw [size_add, size_add]; show _ + 1 + _ ≤ _; omega) (dash_val LA.out LB.out za zb)).mono ?_
    rintro e w5 ⟨rfl, b5⟩
    have hE5 := Lib.hid (hE4.out.below b5 hE4.out.size)
    go_wp2_with fail
    refine (Fold_is _ _ w5 hE5.out (by rw [size_add, size_add, size_add, size_add]; show 1 + _ + 4 + _ + 1 ≤ _; omega) (many_val LA.out LB.out za zb)).mono ?_
    rintro e w6 ⟨rfl, b6⟩
    have hE6 := Lib.hid (hE5.out.below b6 hE5.out.size)
    go_wp2_with fail
    refine (Fold_is _ _ w6 hE6.out (by rw [size_add, size_add]; show _ + 1 + _ ≤ _; omega) (quote_val LA.out LB.out za zb)).mono ?_
    rintro e w7 ⟨rfl, b7⟩
    have hE7 := Lib.hid (hE6.out.below b7 hE6.out.size)
    go_wp2_with fail
    refine (Tokens_any _ w7 hE7.out (by rw [size_add, size_add]; show _ + 1 + _ ≤ _; omega)).mono ?_
    rintro e w8 ⟨v, rfl, ⟨xs, ⟨a, cc, rfl, hx⟩, hl⟩, b8⟩
    have hlen : xs.length = 2 := by
      have := congrArg List.length hl
      rw [spaced_words LA.out LB.out] at this
      simpa using this
    clear hx hl
    rw [hlen]
    clear hlen
    go_wp2
    go_ret
    refine ⟨rfl, b4.trans ((b5.trans ((b6.trans ((b7.trans (b8.mono b7.size)).mono b6.size)).mono b5.size)).mono b4.size)⟩
  · have hd : decide (n ≤ 400) = false := by simp; omega
    rw [hd]
    clear hd
    go_wp2_with fail
    refine (awake_any w1 hE1.out).mono ?_
    rintro e w2 ⟨rfl, b2⟩
    go_wp2
    go_ret
    exact ⟨rfl, b1.trans (b2.mono b1.size)⟩
end Go.Proofs.YthkekcjgnlccdaaDoor
