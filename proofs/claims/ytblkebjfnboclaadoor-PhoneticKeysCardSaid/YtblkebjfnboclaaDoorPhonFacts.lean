/- What the statements of layer 6 need of codes, skeletons and keys as texts. No walk. -/
import Derived.Test.YtblkebjfnboclaaDoorPhonKey
import Derived.Test.YtblkebjfnboclaaDoorLawsD
namespace Go.Proofs.YtblkebjfnboclaaDoor
open Go.RowKit
set_option maxRecDepth 100000

theorem words_run (l : List UInt8) : ∀ p m, (∀ c ∈ l, c.toNat ≠ 32) → TM.words p (l ++ m) = TM.words (p ++ l) m := by
  induction l with
  | nil => intro p m _; simp
  | cons c t ih =>
    intro p m h
    have hc : c.toNat ≠ 32 := h c (by simp)
    rw [List.cons_append, TM.words, if_neg hc, ih _ _ (fun x hx => h x (by simp [hx]))]
    simp
theorem words_front (l m : List UInt8) (h : ∀ c ∈ l, c.toNat ≠ 32) (hne : l ≠ []) : TM.words [] (l ++ 32 :: m) = l :: TM.words [] m := by
  rw [words_run l [] _ h, List.nil_append, TM.words, if_pos (by decide), if_neg hne]
theorem words_lone (l : List UInt8) (h : ∀ c ∈ l, c.toNat ≠ 32) (hne : l ≠ []) : TM.words [] l = [l] := by
  have := words_run l [] [] h
  rw [List.append_nil] at this
  rw [this, List.nil_append, TM.words, if_neg hne]

/-- One letter or more from a to z, at most 64. -/
theorem low_tok {a : ByteArray} (h : lowB a = true) : ptokB a = true ∧ 1 ≤ a.size ∧ a.size ≤ 8 := by
  unfold lowB at h
  have hl : a.data.toList.length = a.size := by simp
  rw [Bool.and_eq_true, Bool.and_eq_true, decide_eq_true_eq, decide_eq_true_eq] at h
  refine ⟨(PM.tok_iff _).2 ⟨h.1.1, by omega, h.2⟩, by omega, by omega⟩
theorem tok_cat {a b : ByteArray} (ha : ptokB a = true) (hb : b.data.toList.all TM.lower = true) (h : a.size + b.size ≤ 64) : ptokB (a ++ b) = true := by
  have hl : a.data.toList.length = a.size := by simp
  have hl2 : b.data.toList.length = b.size := by simp
  obtain ⟨h1, h2, h3⟩ := (PM.tok_iff _).1 ha
  refine (PM.tok_iff _).2 ⟨by rw [data_add, List.length_append]; omega, by rw [data_add, List.length_append]; omega, by rw [data_add, List.all_append, h3, hb]; rfl⟩
theorem tok_all {a : ByteArray} (h : ptokB a = true) : a.data.toList.all TM.lower = true := ((PM.tok_iff _).1 h).2.2
theorem tok_ne {a : ByteArray} (h : ptokB a = true) : a.data.toList ≠ [] := by
  have := ((PM.tok_iff _).1 h).1
  intro e
  rw [e] at this
  simp at this
theorem low_sp {l : List UInt8} (h : l.all TM.lower = true) : ∀ c ∈ l, c.toNat ≠ 32 := by
  intro c hc
  have := List.all_eq_true.1 h c hc
  unfold TM.lower at this
  simp at this
  omega

theorem sx_yes {a : ByteArray} (h : ptokB a = true) : sxB a = bs (PM.code a.data.toList) := by unfold sxB; rw [if_pos h]
theorem sk_yes {a : ByteArray} (h : ptokB a = true) : skB a = bs (PM.skel a.data.toList) := by unfold skB; rw [if_pos h]
theorem sx_four {a : ByteArray} (h : ptokB a = true) : ∃ x y z u : UInt8, sxB a = ⟨#[x, y, z, u]⟩ ∧ a.data.toList.take 1 = [x] ∧ (48 ≤ y.toNat ∧ y.toNat ≤ 54) ∧ (48 ≤ z.toNat ∧ z.toNat ≤ 54) ∧ (48 ≤ u.toNat ∧ u.toNat ≤ 54) ∧
    (y.toNat = 48 → z.toNat = 48) ∧ (z.toNat = 48 → u.toNat = 48) := by
  have hne := tok_ne h
  rw [sx_yes h]
  match he : a.data.toList, hne with
  | c :: t, _ =>
    obtain ⟨y, z, u, h1, h2, h3, h4, h5, h6⟩ := PM.code_shape c t
    exact ⟨c, y, z, u, by rw [h1]; rfl, rfl, h2, h3, h4, h5, h6⟩
theorem sx_full {a : ByteArray} (h : ptokB a = true) : (!(sxB a).toList.isEmpty) = true := by
  obtain ⟨x, y, z, u, h1, -⟩ := sx_four h
  rw [h1, Lib.toList_data]
  rfl
theorem sk_shape_of {a : ByteArray} (h : ptokB a = true) (K : ByteArray) (hK : K = bs (PM.skel a.data.toList)) : 1 ≤ K.size ∧ K.size ≤ 6 ∧ K.data.toList.take 1 = a.data.toList.take 1 ∧ K.data.toList.all TM.lower = true ∧
    ∀ k, ∀ hk : k + 1 < K.size, K[k + 1].toNat ≠ K[k].toNat := by
  subst hK
  have hne := tok_ne h
  have hlow := tok_all h
  have hz : (bs (PM.skel a.data.toList)).size = (PM.skel a.data.toList).length := rfl
  match he : a.data.toList, hne with
  | c :: t, _ =>
    rw [he] at hlow hz
    have := PM.skel_length c t
    refine ⟨by omega, by omega, by rw [list_bs, PM.skel_head]; rfl, by rw [list_bs]; exact PM.skel_lower _ hlow, fun k hk e => ?_⟩
    exact PM.skel_apart (c :: t) k (by omega) (UInt8.toNat_inj.1 e)
theorem sk_shape {a : ByteArray} (h : ptokB a = true) : 1 ≤ (skB a).size ∧ (skB a).size ≤ 6 ∧ (skB a).data.toList.take 1 = a.data.toList.take 1 ∧ (skB a).data.toList.all TM.lower = true ∧
    ∀ k, ∀ hk : k + 1 < (skB a).size, (skB a)[k + 1].toNat ≠ (skB a)[k].toNat := sk_shape_of h _ (sk_yes h)

theorem ky_lone {a : ByteArray} (h : ptokB a = true) : kyB a = sxB a := by
  unfold kyB
  rw [words_lone _ (low_sp (tok_all h)) (tok_ne h)]
  show sxB (bs _) = _
  rw [bs_list]
def spB : ByteArray := ⟨#[32]⟩
theorem ky_first {a : ByteArray} (b : ByteArray) (h : ptokB a = true) : kyB (a ++ ⟨#[32]⟩ ++ b) = sxB a := by
  unfold kyB
  rw [data_add, data_add, List.append_assoc]
  show kyL (TM.words [] (a.data.toList ++ 32 :: b.data.toList)) = _
  rw [words_front _ _ (low_sp (tok_all h)) (tok_ne h)]
  show sxB (bs _) = _
  rw [bs_list]
theorem ky_behind {a : ByteArray} (h : ptokB a = true) : kyB (⟨#[32, 32]⟩ ++ a) = sxB a := by
  unfold kyB
  rw [data_add]
  show kyL (TM.words [] (32 :: 32 :: a.data.toList)) = _
  rw [TM.words, if_pos (by decide), if_pos rfl, TM.words, if_pos (by decide), if_pos rfl]
  exact ky_lone h
theorem ky_space : kyB ⟨#[32]⟩ = ⟨#[]⟩ := by decide
theorem ky_none : kyB ⟨#[]⟩ = ⟨#[]⟩ := by decide
theorem sm_none : smB ⟨#[]⟩ ⟨#[]⟩ = false := by
  unfold smB
  rw [ky_none, Lib.toList_data]
  rfl
theorem sm_turn (a b : ByteArray) : smB a b = smB b a := by
  unfold smB
  cases h : (kyB a).toList == (kyB b).toList
  · have h2 : ((kyB b).toList == (kyB a).toList) = false := by
      rw [beq_eq_false_iff_ne] at h ⊢
      exact fun e => h e.symm
    rw [h2, Bool.and_false, Bool.and_false]
  · have h2 := eq_of_beq h
    rw [h2, beq_self_eq_true]
theorem sm_first {a : ByteArray} (b : ByteArray) (h : ptokB a = true) : smB a (a ++ ⟨#[32]⟩ ++ b) = true := by
  unfold smB
  rw [ky_first b h, ky_lone h, sx_full h, beq_self_eq_true]
  rfl
theorem sm_trans {a b c : ByteArray} (h1 : smB a b = true) (h2 : smB b c = true) : smB a c = true := by
  unfold smB at *
  rw [Bool.and_eq_true] at *
  exact ⟨h1.1, by rw [eq_of_beq h1.2]; exact h2.2⟩

/-- A letter that stands at place k is doubled. -/
def dblB (s : ByteArray) (k : Nat) : ByteArray := s.extract 0 k ++ s.extract k (k + 1) ++ s.extract k s.size
theorem dbl_data (s : ByteArray) (k : Nat) (h : k < s.size) : (dblB s k).data.toList = s.data.toList.take k ++ [s.data.toList[k]'(by simpa using h)] ++ s.data.toList.drop k := by
  unfold dblB
  rw [data_add, data_add, extract_one s k h, extract_list, Lib.extract_data]
  simp
  rfl
theorem dbl_codes {s : ByteArray} (hs : ptokB s = true) (hz : s.size ≤ 8) (k : Nat) (h : k < s.size) : sxB (dblB s k) = sxB s ∧ skB (dblB s k) = skB s := by
  have hl : s.data.toList.length = s.size := by simp
  have hd := dbl_data s k h
  have hall := tok_all hs
  have ht : ptokB (dblB s k) = true := by
    refine (PM.tok_iff _).2 ?_
    rw [hd]
    refine ⟨by simp; omega, by simp; omega, ?_⟩
    rw [List.all_append, List.all_append]
    rw [List.all_eq_true] at hall
    simp only [Bool.and_eq_true, List.all_eq_true]
    refine ⟨⟨fun x hx => hall x (List.mem_of_mem_take hx), fun x hx => ?_⟩, fun x hx => hall x (List.mem_of_mem_drop hx)⟩
    simp at hx
    subst hx
    exact hall _ (List.getElem_mem _)
  constructor
  · rw [sx_yes ht, sx_yes hs, hd, PM.code_double _ k (by omega)]
  · rw [sk_yes ht, sk_yes hs, hd, PM.skel_double _ k (by omega)]

/-- Letters are put in at place k. -/
def putB (s m : ByteArray) (k : Nat) : ByteArray := s.extract 0 k ++ m ++ s.extract k s.size
theorem put_data (s m : ByteArray) (k : Nat) : (putB s m k).data.toList = s.data.toList.take k ++ m.data.toList ++ s.data.toList.drop k := by
  unfold putB
  rw [data_add, data_add, extract_list, Lib.extract_data]
  simp
theorem put_tok {s m : ByteArray} (hs : ptokB s = true) (hz : s.size ≤ 8) (hm : m.data.toList.all TM.lower = true) (hmz : m.size ≤ 2) (k : Nat) : ptokB (putB s m k) = true := by
  have hl : s.data.toList.length = s.size := by simp
  have hl2 : m.data.toList.length = m.size := by simp
  have hall := tok_all hs
  have hp := ptok_pos hs
  refine (PM.tok_iff _).2 ?_
  rw [put_data]
  refine ⟨by simp; omega, by simp; omega, ?_⟩
  rw [List.all_append, List.all_append, hm]
  rw [List.all_eq_true] at hall
  simp only [Bool.and_eq_true, List.all_eq_true]
  exact ⟨⟨fun x hx => hall x (List.mem_of_mem_take hx), trivial⟩, fun x hx => hall x (List.mem_of_mem_drop hx)⟩
def silL : List ByteArray := [⟨#[104]⟩, ⟨#[119]⟩, ⟨#[104, 119]⟩]
def vowL : List ByteArray := [⟨#[97]⟩, ⟨#[101]⟩, ⟨#[121]⟩, ⟨#[104]⟩]
theorem sil_is : ∀ m ∈ silL, m.data.toList.all TM.lower = true ∧ m.size ≤ 2 ∧ ∀ c ∈ m.data.toList, PM.dig c = 1 := by decide
theorem vow_is : ∀ m ∈ vowL, m.data.toList.all TM.lower = true ∧ m.size ≤ 2 ∧ ∀ c ∈ m.data.toList, PM.dig c ≤ 1 := by decide
theorem put_code {s m : ByteArray} (hs : ptokB s = true) (hz : s.size ≤ 8) (hm : m ∈ silL) (k : Nat) (hk : 1 ≤ k) (h : k ≤ s.size) : sxB (putB s m k) = sxB s := by
  have hl : s.data.toList.length = s.size := by simp
  obtain ⟨h1, h2, h3⟩ := sil_is m hm
  rw [sx_yes (put_tok hs hz h1 h2 k), sx_yes hs, put_data, PM.code_silent _ _ k hk (by omega) h3]
theorem put_skel {s m : ByteArray} (hs : ptokB s = true) (hz : s.size ≤ 8) (hm : m ∈ vowL) (k : Nat) (hk : 1 ≤ k) (h : k ≤ s.size) : skB (putB s m k) = skB s := by
  have hl : s.data.toList.length = s.size := by simp
  obtain ⟨h1, h2, h3⟩ := vow_is m hm
  rw [sk_yes (put_tok hs hz h1 h2 k), sk_yes hs, put_data, PM.skel_silent _ _ k hk (by omega) h3]
end Go.Proofs.YtblkebjfnboclaaDoor
