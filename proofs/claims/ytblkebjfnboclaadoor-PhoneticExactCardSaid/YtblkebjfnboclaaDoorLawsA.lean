/- The walks of TextParts, TextDress, TextIdempotent. -/
import Derived.Test.YtblkebjfnboclaaDoorAwake
import Derived.Test.YtblkebjfnboclaaDoorLawMath
namespace Go.Proofs.YtblkebjfnboclaaDoor
open Go.RowKit

theorem low_lows {s : ByteArray} (h : lowB s = true) : TM.lows s.data.toList ∧ s.size ≤ 8 := by
  have hz := low_size h
  unfold lowB at h
  simp only [Bool.and_eq_true, decide_eq_true_eq] at h
  exact ⟨⟨List.length_pos_iff.1 h.1.1, h.2⟩, hz⟩
theorem valid_plain {s : ByteArray} (h : s.data.toList.all TM.plain = true) (hl : s.size ≤ 64) : validB s = true := by
  have h2 : s.data.toList.length = s.size := by simp
  unfold validB TM.valid
  rw [TM.ok_all _ h, h2]
  simp [hl]
theorem foldVal_plain {s r : ByteArray} (h : s.data.toList.all TM.plain = true) (hl : s.size ≤ 64) (hf : TM.fold s.data.toList = r.data.toList) : foldVal s = .tuple #[.string r, .int .i64 0] := by
  unfold foldVal
  rw [valid_plain h hl, if_pos rfl, hf, bs_list]
theorem size_list (s : ByteArray) : s.data.toList.length = s.size := by simp
theorem ba_ext {a b : ByteArray} (h : a.data.toList = b.data.toList) : a = b := by
  cases a; cases b
  congr 1
  exact Array.toList_inj.1 h

theorem spaced (ta tb : ByteArray) : (ta ++ ⟨#[32]⟩ ++ tb : ByteArray).data.toList = ta.data.toList ++ 32 :: tb.data.toList := by rw [data_add, data_add]; simp
theorem dash_val {ta tb : ByteArray} (la : TM.lows ta.data.toList) (lb : TM.lows tb.data.toList) (za : ta.size ≤ 8) (zb : tb.size ≤ 8) : foldVal (ta ++ ⟨#[45]⟩ ++ tb) = .tuple #[.string (ta ++ ⟨#[32]⟩ ++ tb), .int .i64 0] := by
  have p1 : (ta ++ ⟨#[45]⟩ ++ tb : ByteArray).data.toList = ta.data.toList ++ [45] ++ tb.data.toList := by rw [data_add, data_add]
  refine foldVal_plain ?_ ?_ ?_
  · rw [p1, List.all_append, List.all_append, TM.plain_lows la, TM.plain_lows lb]; rfl
  · rw [size_add, size_add]; show _ + 1 + _ ≤ _; omega
  · rw [p1, spaced]; exact TM.fold_dash la lb
theorem space_val {ta tb : ByteArray} (la : TM.lows ta.data.toList) (lb : TM.lows tb.data.toList) (za : ta.size ≤ 8) (zb : tb.size ≤ 8) : foldVal (ta ++ ⟨#[32]⟩ ++ tb) = .tuple #[.string (ta ++ ⟨#[32]⟩ ++ tb), .int .i64 0] := by
  have p1 : (ta ++ ⟨#[32]⟩ ++ tb : ByteArray).data.toList = ta.data.toList ++ [32] ++ tb.data.toList := by rw [data_add, data_add]
  refine foldVal_plain ?_ ?_ ?_
  · rw [p1, List.all_append, List.all_append, TM.plain_lows la, TM.plain_lows lb]; rfl
  · rw [size_add, size_add]; show _ + 1 + _ ≤ _; omega
  · rw [p1]; exact (TM.fold_space la lb).trans (by simp)
theorem many_val {ta tb : ByteArray} (la : TM.lows ta.data.toList) (lb : TM.lows tb.data.toList) (za : ta.size ≤ 8) (zb : tb.size ≤ 8) : foldVal (⟨#[32]⟩ ++ ta ++ ⟨#[32, 46, 47, 32]⟩ ++ tb ++ ⟨#[44]⟩) = .tuple #[.string (ta ++ ⟨#[32]⟩ ++ tb), .int .i64 0] := by
  have p1 : ((⟨#[32]⟩ ++ ta ++ ⟨#[32, 46, 47, 32]⟩ ++ tb ++ ⟨#[44]⟩ : ByteArray)).data.toList = [32] ++ ta.data.toList ++ [32, 46, 47, 32] ++ tb.data.toList ++ [44] := by rw [data_add, data_add, data_add, data_add]
  refine foldVal_plain ?_ ?_ ?_
  · rw [p1, List.all_append, List.all_append, List.all_append, List.all_append, TM.plain_lows la, TM.plain_lows lb]; rfl
  · rw [size_add, size_add, size_add, size_add]; show 1 + _ + 4 + _ + 1 ≤ _; omega
  · rw [p1, spaced]; exact TM.fold_many la lb
theorem quote_val {ta tb : ByteArray} (la : TM.lows ta.data.toList) (lb : TM.lows tb.data.toList) (za : ta.size ≤ 8) (zb : tb.size ≤ 8) : foldVal (ta ++ ⟨#[39]⟩ ++ tb) = .tuple #[.string (ta ++ tb), .int .i64 0] := by
  have p1 : (ta ++ ⟨#[39]⟩ ++ tb : ByteArray).data.toList = ta.data.toList ++ [39] ++ tb.data.toList := by rw [data_add, data_add]
  refine foldVal_plain ?_ ?_ ?_
  · rw [p1, List.all_append, List.all_append, TM.plain_lows la, TM.plain_lows lb]; rfl
  · rw [size_add, size_add]; show _ + 1 + _ ≤ _; omega
  · rw [p1, data_add]; exact TM.fold_quote la lb
theorem spaced_words {ta tb : ByteArray} (la : TM.lows ta.data.toList) (lb : TM.lows tb.data.toList) : TM.words [] (ta ++ ⟨#[32]⟩ ++ tb : ByteArray).data.toList = [ta.data.toList, tb.data.toList] := by
  rw [spaced, TM.words_two_of _ _ la.2 lb.2 la.1 lb.1]

end Go.Proofs.YtblkebjfnboclaaDoor
