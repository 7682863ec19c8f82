/- What layer 4's statements need of plain lists: numbers, words, codes. -/
import Derived.Test.YthplnfblpdojkaaDoorNameLaws5
import Derived.Test.YthplnfblpdojkaaDoorAddrNum
namespace Go.Proofs.YthplnfblpdojkaaDoor
open Go.RowKit
set_option linter.unusedVariables false
set_option maxRecDepth 100000

namespace TM
theorem fold_word (t : List UInt8) (h : t.all fine = true) (hs : ∀ c ∈ t, c.toNat ≠ 32) : fold t = t := by
  unfold fold
  rw [spell_fine _ h]
  cases t with
  | nil => rfl
  | cons a u =>
    have := words_free (a :: u) hs [] []
    rw [List.append_nil, List.nil_append] at this
    rw [this]
    simp [words, join]
end TM

theorem valid_plainW {s : ByteArray} (h : s.data.toList.all TM.plain = true) (hl : s.size ≤ 64) : validB s = true := by
  unfold validB TM.valid
  rw [TM.ok_all _ h, sizeL]
  simp [hl]
def trimB (x : ByteArray) : ByteArray := bs (TM.trimN x.data.toList)
def wordsB (s : ByteArray) : List ByteArray := (TM.words [] s.data.toList).map bs
def numsOf (xs : List ByteArray) : List ByteArray := xs.filter numB
def restOf (xs : List ByteArray) : List ByteArray := xs.filter fun x => !numB x
def joinOf (xs : List ByteArray) : ByteArray := bs (TM.join (xs.map (·.data.toList)))
def adrToks (r : RL) (ws : List ByteArray) : List ByteArray := (restOf ws).map (canonB r.streets) ++ (numsOf ws).map trimB
def foldB (s : ByteArray) : ByteArray := bs (TM.fold s.data.toList)
def adrTxt (r : RL) (s : ByteArray) : ByteArray := joinOf (adrToks r (wordsB (foldB s)))
def adrVal (r : RL) (s : ByteArray) : ByteArray × Int :=
  if checkV r ≠ 0 then (noB, checkV r) else if validB s = false then (noB, 3)
  else if 6 < (adrToks r (wordsB (foldB s))).length ∨ 64 < (adrTxt r s).size then (noB, 1) else (adrTxt r s, 0)
def adrB (r : RL) (s : ByteArray) : Bool := (adrVal r s).2 == 0 && (adrVal r s).1.toList == s.toList
def numOf (s : ByteArray) : ByteArray := (numsOf (wordsB s)).headD noB
def streetOf (s : ByteArray) : ByteArray := joinOf (restOf (wordsB s))
def codeTxt (s : ByteArray) : ByteArray := bs (TM.noSp (TM.fold s.data.toList))
def codeVal (s : ByteArray) : ByteArray × Int := if validB s = false then (noB, 3) else if 12 < (codeTxt s).size then (noB, 1) else (codeTxt s, 0)
def codeB (s : ByteArray) : Bool := (codeVal s).2 == 0 && (codeVal s).1.toList == s.toList

theorem wordsB_list (s : ByteArray) : (wordsB s).map (·.data.toList) = TM.words [] s.data.toList := by
  unfold wordsB
  rw [List.map_map]
  show (TM.words [] s.data.toList).map id = _
  rw [List.map_id]
theorem wordsB_of {xs : List ByteArray} {s : ByteArray} (h : xs.map (·.data.toList) = TM.words [] s.data.toList) : xs = wordsB s := by
  unfold wordsB
  rw [← h, List.map_map]
  show xs = xs.map id
  rw [List.map_id]
theorem adr_check {r : RL} (s : ByteArray) {c : Int} (h : checkV r = c) (hc : c ≠ 0) : adrVal r s = (noB, c) := by
  unfold adrVal; rw [h, if_pos hc]
theorem adr_text {r : RL} (s : ByteArray) (h : checkV r = 0) (hv : validB s = false) : adrVal r s = (noB, 3) := by
  unfold adrVal; rw [if_neg (by rw [h]; simp), if_pos hv]
theorem adr_limit {r : RL} (s : ByteArray) (h : checkV r = 0) (hv : validB s = true) (hl : 6 < (adrToks r (wordsB (foldB s))).length ∨ 64 < (adrTxt r s).size) : adrVal r s = (noB, 1) := by
  unfold adrVal; rw [if_neg (by rw [h]; simp), if_neg (by rw [hv]; simp), if_pos hl]
theorem adr_fine {r : RL} (s : ByteArray) (h : checkV r = 0) (hv : validB s = true) (hl : ¬ (6 < (adrToks r (wordsB (foldB s))).length ∨ 64 < (adrTxt r s).size)) : adrVal r s = (adrTxt r s, 0) := by
  unfold adrVal; rw [if_neg (by rw [h]; simp), if_neg (by rw [hv]; simp), if_neg hl]
theorem adr_cases (r : RL) (s : ByteArray) : (∃ c, c ≠ 0 ∧ adrVal r s = (noB, c)) ∨
    (adrVal r s = (adrTxt r s, 0) ∧ checkV r = 0 ∧ rightB r = true ∧ validB s = true ∧ (adrToks r (wordsB (foldB s))).length ≤ 6 ∧ (adrTxt r s).size ≤ 64) := by
  by_cases h0 : checkV r = 0
  · by_cases hv : validB s = true
    · by_cases hl : 6 < (adrToks r (wordsB (foldB s))).length ∨ 64 < (adrTxt r s).size
      · exact .inl ⟨1, by decide, adr_limit s h0 hv hl⟩
      · exact .inr ⟨adr_fine s h0 hv hl, h0, check_zero h0, hv, by omega, by omega⟩
    · exact .inl ⟨3, by decide, adr_text s h0 (by simpa using hv)⟩
  · exact .inl ⟨_, h0, adr_check s rfl h0⟩
theorem code_text {s : ByteArray} (hv : validB s = false) : codeVal s = (noB, 3) := by unfold codeVal; rw [if_pos hv]
theorem code_limit {s : ByteArray} (hv : validB s = true) (h : 12 < (codeTxt s).size) : codeVal s = (noB, 1) := by unfold codeVal; rw [if_neg (by rw [hv]; simp), if_pos h]
theorem code_fine {s : ByteArray} (hv : validB s = true) (h : ¬ 12 < (codeTxt s).size) : codeVal s = (codeTxt s, 0) := by unfold codeVal; rw [if_neg (by rw [hv]; simp), if_neg h]
theorem code_cases (s : ByteArray) : (∃ c, c ≠ 0 ∧ codeVal s = (noB, c)) ∨ (codeVal s = (codeTxt s, 0) ∧ validB s = true ∧ (codeTxt s).size ≤ 12) := by
  by_cases hv : validB s = true
  · by_cases hl : 12 < (codeTxt s).size
    · exact .inl ⟨1, by decide, code_limit hv hl⟩
    · exact .inr ⟨code_fine hv hl, hv, by omega⟩
  · exact .inl ⟨3, by decide, code_text (by simpa using hv)⟩

/-- The bytes and the sizes of a folded text's words. -/
theorem valid_ok {s : ByteArray} (h : validB s = true) : TM.ok s.data.toList = true := by
  unfold validB TM.valid at h
  simp only [Bool.and_eq_true] at h
  exact h.2
theorem words_fine {s : ByteArray} (h : validB s = true) : ∀ x ∈ wordsB (foldB s), TM.word x.data.toList ∧ x.data.toList.all TM.fine = true ∧ x.size ≤ 64 := by
  intro x hx
  have hx' : x.data.toList ∈ TM.words [] (TM.fold s.data.toList) := by
    rw [← list_bs (TM.fold s.data.toList)]
    show _ ∈ TM.words [] (foldB s).data.toList
    rw [← wordsB_list]
    exact List.mem_map.2 ⟨x, hx, rfl⟩
  refine ⟨TM.words_word _ _ (by simp) _ hx', ?_, ?_⟩
  · rw [List.all_eq_true]
    intro c hc
    rcases TM.words_mem _ _ _ hx' c hc with h' | h'
    · simp at h'
    · exact List.all_eq_true.1 (TM.fold_fine _ (valid_ok h)) c h'
  · have h1 := words_each _ _ _ hx'
    have h2 := (valid_size h).2
    rw [sizeL] at h1
    simp at h1
    omega
theorem toks_len (r : RL) (ws : List ByteArray) : (adrToks r ws).length = ws.length := by
  unfold adrToks restOf numsOf
  rw [List.length_append, List.length_map, List.length_map]
  induction ws with
  | nil => rfl
  | cons a t ih =>
    rw [List.filter_cons, List.filter_cons]
    cases h : numB a <;> simp at ih ⊢ <;> omega
theorem words_count {s : ByteArray} (h : validB s = true) : (wordsB (foldB s)).length ≤ 65 := by
  have h1 := congrArg List.length (wordsB_list (foldB s))
  have h2 := (words_len (foldB s).data.toList []).1
  have h3 := (valid_size h).2
  rw [List.length_map] at h1
  have h4 : (foldB s).data.toList.length = (TM.fold s.data.toList).length := by unfold foldB; rw [list_bs]
  omega
theorem right_streets {r : RL} (h : rightB r = true) : ∀ p ∈ r.streets, tokB p.1 = true ∧ tokB p.2 = true ∧ hasB (froms r.streets) p.2 = false := by
  intro p hp
  unfold rightB at h
  simp only [Bool.and_eq_true] at h
  have h2 := h.2.2.1
  unfold arePairsB at h2
  simp only [Bool.and_eq_true] at h2
  rw [areTok_split] at h2
  simp only [Bool.and_eq_true] at h2
  have h3 := List.all_eq_true.1 h2.2 p hp
  unfold toAt at h3
  simp only [Bool.and_eq_true, Bool.not_eq_true'] at h3
  exact ⟨List.all_eq_true.1 h2.1.1 p.1 (List.mem_map.2 ⟨p, hp, rfl⟩), h3.1, h3.2⟩
theorem lows_num {t : List UInt8} (h : TM.lows t) : TM.isnum t = false := by
  obtain ⟨h1, h2⟩ := h
  cases t with
  | nil => exact absurd rfl h1
  | cons c u =>
    have := List.all_eq_true.1 h2 c (by simp)
    show TM.digit c = false
    simp [TM.lower] at this
    simp [TM.digit]
    omega
theorem lows_fine {t : List UInt8} (h : t.all TM.lower = true) : t.all TM.fine = true := by
  rw [List.all_eq_true] at h ⊢
  intro c hc
  simp [TM.fine, h c hc]
/-- What a rule leaves: the word itself, or a word of letters; the rules leave it. -/
theorem street_stays {r : RL} (h : rightB r = true) (x : ByteArray) (hx : TM.word x.data.toList ∧ x.data.toList.all TM.fine = true ∧ x.size ≤ 64) (hn : numB x = false) :
    (TM.word (canonB r.streets x).data.toList ∧ (canonB r.streets x).data.toList.all TM.fine = true ∧ (canonB r.streets x).size ≤ 64) ∧ numB (canonB r.streets x) = false ∧ canonB r.streets (canonB r.streets x) = canonB r.streets x := by
  unfold canonB
  cases hf : r.streets.find? (fun p => p.1.toList == x.toList) with
  | none =>
    refine ⟨hx, hn, ?_⟩
    show (match r.streets.find? (fun p => p.1.toList == x.toList) with | some p => p.2 | none => x) = x
    rw [hf]
  | some p =>
    have hp := List.mem_of_find?_eq_some hf
    obtain ⟨-, h2, h3⟩ := right_streets h p hp
    have hl := tok_lows h2
    refine ⟨⟨hl.word_, lows_fine hl.2, tok_size h2⟩, lows_num hl, ?_⟩
    have : r.streets.find? (fun q => q.1.toList == p.2.toList) = none := by
      rw [List.find?_eq_none]
      intro q hq hqe
      have : hasB (froms r.streets) p.2 = true := by
        rw [hasB_iff]
        rw [eqS_iff] at hqe
        exact hqe ▸ List.mem_map.2 ⟨q, hq, rfl⟩
      rw [this] at h3; cases h3
    show (match r.streets.find? (fun q => q.1.toList == p.2.toList) with | some p => p.2 | none => p.2) = p.2
    rw [this]
theorem trim_fine {x : ByteArray} (hx : TM.word x.data.toList ∧ x.data.toList.all TM.fine = true ∧ x.size ≤ 64) : TM.word (trimB x).data.toList ∧ (trimB x).data.toList.all TM.fine = true ∧ (trimB x).size ≤ 65 := by
  unfold trimB
  rw [list_bs]
  refine ⟨⟨TM.trim_ne _, fun c hc h => ?_⟩, ?_, ?_⟩
  · rcases TM.trim_mem _ c hc with rfl | hc
    · exact absurd h (by decide)
    · exact hx.1.2 c hc h
  · rw [List.all_eq_true]
    intro c hc
    rcases TM.trim_mem _ c hc with rfl | hc
    · decide
    · exact List.all_eq_true.1 hx.2.1 c hc
  · have h1 := TM.trim_len x.data.toList
    rw [show (bs (TM.trimN x.data.toList)).size = (TM.trimN x.data.toList).length from size_of_list _]
    rw [sizeL] at h1
    omega
theorem toks_fine {r : RL} (hr : rightB r = true) {s : ByteArray} (h : validB s = true) : ∀ x ∈ adrToks r (wordsB (foldB s)), TM.word x.data.toList ∧ x.data.toList.all TM.fine = true ∧ x.size ≤ 65 := by
  intro x hx
  unfold adrToks at hx
  rcases List.mem_append.1 hx with hx | hx
  · obtain ⟨y, hy, rfl⟩ := List.mem_map.1 hx
    obtain ⟨hy1, hy2⟩ := List.mem_filter.1 hy
    obtain ⟨⟨a, b, c⟩, -⟩ := street_stays hr y (words_fine h y hy1) (by simpa using hy2)
    exact ⟨a, b, by omega⟩
  · obtain ⟨y, hy, rfl⟩ := List.mem_map.1 hx
    exact trim_fine (words_fine h y (List.mem_filter.1 hy).1)
theorem filter_all {α : Type} {p : α → Bool} {l : List α} (h : ∀ x ∈ l, p x = true) : l.filter p = l := List.filter_eq_self.2 h
theorem filter_no {α : Type} {p : α → Bool} {l : List α} (h : ∀ x ∈ l, p x = false) : l.filter p = [] := List.filter_eq_nil_iff.2 (fun x hx => by rw [h x hx]; simp)
theorem map_same {α : Type} {f : α → α} {l : List α} (h : ∀ x ∈ l, f x = x) : l.map f = l := by
  induction l with
  | nil => rfl
  | cons a t ih => rw [List.map_cons, h a (by simp), ih (fun x hx => h x (by simp [hx]))]
/-- The normal form's tokens are its own normal form's. -/
theorem toks_again {r : RL} (hr : rightB r = true) {s : ByteArray} (h : validB s = true) : adrToks r (adrToks r (wordsB (foldB s))) = adrToks r (wordsB (foldB s)) ∧
    restOf (adrToks r (wordsB (foldB s))) = (restOf (wordsB (foldB s))).map (canonB r.streets) ∧ numsOf (adrToks r (wordsB (foldB s))) = (numsOf (wordsB (foldB s))).map trimB := by
  have hA : ∀ x ∈ (restOf (wordsB (foldB s))).map (canonB r.streets), numB x = false ∧ canonB r.streets x = x := by
    intro x hx
    obtain ⟨y, hy, rfl⟩ := List.mem_map.1 hx
    obtain ⟨hy1, hy2⟩ := List.mem_filter.1 hy
    obtain ⟨-, a, b⟩ := street_stays hr y (words_fine h y hy1) (by simpa using hy2)
    exact ⟨a, b⟩
  have hB : ∀ x ∈ (numsOf (wordsB (foldB s))).map trimB, numB x = true ∧ trimB x = x := by
    intro x hx
    obtain ⟨y, hy, rfl⟩ := List.mem_map.1 hx
    refine ⟨?_, ?_⟩
    · unfold numB trimB; rw [list_bs]; exact TM.trim_num _
    · unfold trimB; rw [list_bs, TM.trim_trim]
  have e1 : restOf (adrToks r (wordsB (foldB s))) = (restOf (wordsB (foldB s))).map (canonB r.streets) := by
    conv => lhs; unfold restOf adrToks
    rw [List.filter_append, filter_all (fun x hx => by rw [(hA x hx).1]; rfl), filter_no (fun x hx => by rw [(hB x hx).1]; rfl), List.append_nil]
  have e2 : numsOf (adrToks r (wordsB (foldB s))) = (numsOf (wordsB (foldB s))).map trimB := by
    conv => lhs; unfold numsOf adrToks
    rw [List.filter_append, filter_no (fun x hx => (hA x hx).1), filter_all (fun x hx => (hB x hx).1), List.nil_append]
  refine ⟨?_, e1, e2⟩
  have e3 : ∀ L, adrToks r L = (restOf L).map (canonB r.streets) ++ (numsOf L).map trimB := fun _ => rfl
  rw [e3 (adrToks r (wordsB (foldB s))), e1, e2, map_same (fun x hx => (hA x hx).2), map_same (fun x hx => (hB x hx).2)]
  rfl
theorem txt_words {r : RL} (hr : rightB r = true) {s : ByteArray} (h : validB s = true) : wordsB (adrTxt r s) = adrToks r (wordsB (foldB s)) ∧ (adrTxt r s).data.toList.all TM.fine = true ∧ foldB (adrTxt r s) = adrTxt r s := by
  have hf := toks_fine hr h
  have hw : TM.words [] (adrTxt r s).data.toList = (adrToks r (wordsB (foldB s))).map (·.data.toList) := by
    unfold adrTxt joinOf
    rw [list_bs]
    refine TM.words_join _ (fun l hl => ?_)
    obtain ⟨t, ht, rfl⟩ := List.mem_map.1 hl
    exact (hf t ht).1
  have hfi : (adrTxt r s).data.toList.all TM.fine = true := by
    unfold adrTxt joinOf
    rw [list_bs]
    refine TM.join_all (by decide) _ (fun l hl => ?_)
    obtain ⟨t, ht, rfl⟩ := List.mem_map.1 hl
    exact (hf t ht).2.1
  refine ⟨(wordsB_of hw.symm).symm, hfi, ?_⟩
  unfold foldB TM.fold
  rw [TM.spell_fine _ hfi, hw]
  rfl
theorem adr_again {r : RL} {s : ByteArray} (hr : rightB r = true) (hv : validB s = true) (hlen : (adrToks r (wordsB (foldB s))).length ≤ 6) (hz : (adrTxt r s).size ≤ 64) (hc : checkV r = 0) :
    adrVal r (adrTxt r s) = (adrTxt r s, 0) := by
  obtain ⟨h1, h2, h3⟩ := txt_words hr hv
  obtain ⟨h4, -, -⟩ := toks_again hr hv
  have ht : adrToks r (wordsB (foldB (adrTxt r s))) = adrToks r (wordsB (foldB s)) := by rw [h3, h1, h4]
  have hx : adrTxt r (adrTxt r s) = adrTxt r s := by
    show joinOf (adrToks r (wordsB (foldB (adrTxt r s)))) = _
    rw [ht]; rfl
  rw [adr_fine _ hc (valid_fine h2 hz) (by rw [ht, hx]; omega), hx]
theorem code_again {s : ByteArray} (hv : validB s = true) (hz : (codeTxt s).size ≤ 12) : codeVal (codeTxt s) = (codeTxt s, 0) := by
  have hf := TM.fold_fine _ (valid_ok hv)
  have h1 : (codeTxt s).data.toList.all TM.fine = true := by
    unfold codeTxt
    rw [list_bs, List.all_eq_true]
    intro c hc
    exact List.all_eq_true.1 hf c (TM.noSp_sub _ c hc)
  have h2 : codeTxt (codeTxt s) = codeTxt s := by
    have h3 : ∀ c ∈ (codeTxt s).data.toList, c.toNat ≠ 32 := by
      unfold codeTxt
      rw [list_bs]
      exact TM.noSp_free _
    have e3 : ∀ t : ByteArray, codeTxt t = bs (TM.noSp (TM.fold t.data.toList)) := fun _ => rfl
    rw [e3 (codeTxt s), TM.fold_word _ h1 h3]
    show bs (TM.noSp (bs (TM.noSp (TM.fold s.data.toList))).data.toList) = bs (TM.noSp (TM.fold s.data.toList))
    rw [list_bs, TM.noSp_idem]
  rw [code_fine (valid_fine h1 (by omega)) (by rw [h2]; omega), h2]
end Go.Proofs.YthplnfblpdojkaaDoor
