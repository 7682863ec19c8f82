/- What layer 2's statements need of plain lists. -/
import Derived.Test.YthplnfblpdojkaaGreatDoorAwake2
namespace Go.Proofs.YthplnfblpdojkaaGreatDoor
open Go.RowKit
set_option linter.unusedVariables false
set_option maxRecDepth 100000

theorem lowB_lows {s : ByteArray} (h : lowB s = true) : TM.lows s.data.toList ∧ s.size ≤ 8 := by
  have hz := low_size h
  unfold lowB at h
  simp only [Bool.and_eq_true, decide_eq_true_eq] at h
  exact ⟨⟨List.length_pos_iff.1 h.1.1, h.2⟩, hz⟩
theorem ba_ext {a b : ByteArray} (h : a.data.toList = b.data.toList) : a = b := by
  cases a; cases b
  congr 1
  exact Array.toList_inj.1 h
theorem words_cons {a : List UInt8} (ha : TM.word a) (rest : List UInt8) : TM.words [] (a ++ 32 :: rest) = a :: TM.words [] rest := by
  have h32 : (32 : UInt8).toNat = 32 := rfl
  rw [TM.words_free a ha.2, List.nil_append]
  simp only [TM.words, h32, if_true, ha.1, if_false]
/-- Each token with a space behind it. -/
def spacedL (ts : List ByteArray) : List UInt8 := ts.flatMap fun t => t.data.toList ++ [32]
theorem words_spaced (ts : List ByteArray) (h : ∀ t ∈ ts, lowB t = true) : TM.words [] (spacedL ts) = ts.map (·.data.toList) := by
  induction ts with
  | nil => rfl
  | cons a t ih =>
    show TM.words [] ((a.data.toList ++ [32]) ++ spacedL t) = _
    rw [List.append_assoc, List.singleton_append, words_cons (lowB_lows (h a (by simp))).1.word_, ih (fun x hx => h x (by simp [hx]))]
    rfl
theorem low_fine {t : ByteArray} (h : lowB t = true) : t.data.toList.all TM.fine = true := by
  have := (lowB_lows h).1.2
  rw [List.all_eq_true] at this ⊢
  intro c hc
  simp [TM.fine, this c hc]
theorem spaced_fine (ts : List ByteArray) (h : ∀ t ∈ ts, lowB t = true) : (spacedL ts).all TM.fine = true := by
  unfold spacedL
  rw [List.all_eq_true]
  intro c hc
  obtain ⟨t, ht, hc⟩ := List.mem_flatMap.1 hc
  rcases List.mem_append.1 hc with hc | hc
  · exact List.all_eq_true.1 (low_fine (h t ht)) c hc
  · obtain rfl : c = 32 := by simpa using hc
    decide
theorem spaced_snoc (ts : List ByteArray) (t : ByteArray) : spacedL (ts ++ [t]) = spacedL ts ++ (t.data.toList ++ [32]) := by
  unfold spacedL; simp

/-- What is left of tokens. -/
def keep1 (r : RL) (t : ByteArray) : List ByteArray := if hasB r.titles t then [] else [canonB r.nicks t]
def keepB (r : RL) (ts : List ByteArray) : List ByteArray := ts.flatMap (keep1 r)
def joinB (ts : List ByteArray) : ByteArray := bs (TM.join (ts.map (·.data.toList)))
theorem letters_low {t : ByteArray} (h : lowB t = true) : lettersOf t.data.toList = t := by
  apply ba_ext
  unfold lettersOf
  rw [list_bs]
  exact List.filter_eq_self.2 (List.all_eq_true.1 (lowB_lows h).1.2)
theorem left1_low (r : RL) {t : ByteArray} (h : lowB t = true) : left1 r t.data.toList = keep1 r t := by
  have hne : t.toList.isEmpty = false := by
    have := (lowB_lows h).1.1
    rw [Lib.toList_data]
    simpa using this
  unfold keep1
  cases hd : hasB r.titles t
  · exact left1_some r _ t (letters_low h) hne hd
  · exact left1_drop r _ t (letters_low h) hd
theorem left_low (r : RL) (ts : List ByteArray) (h : ∀ t ∈ ts, lowB t = true) : leftB r (ts.map (·.data.toList)) = keepB r ts := by
  unfold leftB keepB
  induction ts with
  | nil => rfl
  | cons a t ih =>
    rw [List.map_cons, List.flatMap_cons, List.flatMap_cons, left1_low r (h a (by simp)), ih (fun x hx => h x (by simp [hx]))]
theorem keep_snoc (r : RL) (ts : List ByteArray) (t : ByteArray) : keepB r (ts ++ [t]) = keepB r ts ++ keep1 r t := by unfold keepB; simp
theorem keep_le (r : RL) (ts : List ByteArray) : (keepB r ts).length ≤ ts.length := by
  induction ts with
  | nil => simp [keepB]
  | cons a t ih =>
    have e : keepB r (a :: t) = keep1 r a ++ keepB r t := by simp [keepB]
    have : (keep1 r a).length ≤ 1 := by unfold keep1; split <;> simp
    rw [e, List.length_append, List.length_cons]; omega
theorem dealt_to {r : RL} (h : Dealt r) : ∀ p ∈ r.nicks, lowB p.2 = true := by
  obtain ⟨t, n, s⟩ := r
  obtain ⟨-, h2, -⟩ := h
  dsimp only at h2
  rcases h2 with rfl | rfl
  · intro p hp; simp at hp
  · show ∀ p ∈ nicksL, lowB p.2 = true
    decide
theorem canon_low {r : RL} (h : Dealt r) {t : ByteArray} (ht : lowB t = true) : lowB (canonB r.nicks t) = true := by
  rcases canon_cases r.nicks t with e | ⟨p, hp, e⟩
  · rw [e]; exact ht
  · rw [e]; exact dealt_to h p hp
theorem keep_low {r : RL} (h : Dealt r) (ts : List ByteArray) (hl : ∀ t ∈ ts, lowB t = true) : ∀ x ∈ keepB r ts, lowB x = true := by
  intro x hx
  unfold keepB at hx
  obtain ⟨t, ht, hx⟩ := List.mem_flatMap.1 hx
  unfold keep1 at hx
  split at hx
  · simp at hx
  · obtain rfl : x = canonB r.nicks t := by simpa using hx
    exact canon_low h (hl t ht)
theorem join_low (ts : List ByteArray) (h : ∀ t ∈ ts, lowB t = true) (hlen : ts.length ≤ 6) : (joinB ts).size ≤ 54 := by
  unfold joinB
  rw [show (bs (TM.join (ts.map (·.data.toList)))).size = (TM.join (ts.map (·.data.toList))).length from size_of_list _]
  have h5 := join_len (ts.map (·.data.toList)) 8 (fun l hl => by
    obtain ⟨x, hx, rfl⟩ := List.mem_map.1 hl
    have := (lowB_lows (h x hx)).2
    simpa using this)
  rw [List.length_map] at h5
  have : ts.length * (8 + 1) ≤ 6 * 9 := Nat.mul_le_mul_right 9 hlen
  omega
theorem valid_fine {s : ByteArray} (h : s.data.toList.all TM.fine = true) (hs : s.size ≤ 64) : validB s = true := by
  have h2 : s.data.toList.length = s.size := by simp
  unfold validB TM.valid
  rw [TM.ok_all _ (TM.fine_plain _ h), h2]
  simp [hs]
/-- A text of tokens, normalised. -/
theorem norm_dealt {r : RL} (h : Dealt r) (s : ByteArray) (ts : List ByteArray) (hf : s.data.toList.all TM.fine = true) (hs : s.size ≤ 64) (hw : TM.words [] s.data.toList = ts.map (·.data.toList))
    (hl : ∀ t ∈ ts, lowB t = true) (hlen : ts.length ≤ 6) : normVal r s = (joinB (keepB r ts), 0) := by
  have ht : normToks r s = keepB r ts := by
    unfold normToks
    rw [TM.words_fold, TM.spell_fine _ hf, hw, left_low r ts hl]
  have hx : normTxt r s = joinB (keepB r ts) := by unfold normTxt joinB; rw [ht]
  have h1 := keep_le r ts
  have h2 := join_low (keepB r ts) (keep_low h ts hl) (by omega)
  rw [norm_fine s (dealt_check h) (valid_fine hf hs) (by rw [ht, hx]; omega), hx]
/-- Names for what they stand for. -/
theorem keep1_canon {r : RL} (h : Dealt r) (t : ByteArray) : keep1 r (canonB r.nicks t) = keep1 r t := by
  have hr := right_to (check_zero (dealt_check h))
  unfold canonB
  cases hf : r.nicks.find? (fun p => p.1.toList == t.toList) with
  | none => rfl
  | some p =>
    have hp := List.mem_of_find?_eq_some hf
    have he := List.find?_some hf
    rw [eqS_iff] at he
    have ha := dealt_apart h p hp
    rw [he] at ha
    have hc : canonB r.nicks p.2 = p.2 := by
      unfold canonB
      have : r.nicks.find? (fun q => q.1.toList == p.2.toList) = none := by
        rw [List.find?_eq_none]
        intro q hq hqe
        have h3 := (hr p hp).2.2.1
        have : hasB (froms r.nicks) p.2 = true := by
          rw [hasB_iff]
          rw [eqS_iff] at hqe
          exact hqe ▸ List.mem_map.2 ⟨q, hq, rfl⟩
        rw [this] at h3; cases h3
      rw [this]
    have ht : canonB r.nicks t = p.2 := by unfold canonB; rw [hf]
    show keep1 r p.2 = keep1 r t
    unfold keep1
    rw [(hr p hp).2.2.2, ha, hc, ht]
theorem keep_canon {r : RL} (h : Dealt r) (ts : List ByteArray) : keepB r (ts.map (canonB r.nicks)) = keepB r ts := by
  unfold keepB
  induction ts with
  | nil => rfl
  | cons a t ih => rw [List.map_cons, List.flatMap_cons, List.flatMap_cons, keep1_canon h, ih]
end Go.Proofs.YthplnfblpdojkaaGreatDoor
