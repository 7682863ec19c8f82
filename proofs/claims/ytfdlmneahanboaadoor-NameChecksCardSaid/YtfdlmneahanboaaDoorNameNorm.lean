/- Walks of layer 2's Normalise and Normal, and the reference's. -/
import Derived.Test.YtfdlmneahanboaaDoorNameRules4
namespace Go.Proofs.YtfdlmneahanboaaDoor
open Go.RowKit
set_option linter.unusedVariables false

theorem words_each (m : List UInt8) : ∀ p, ∀ t ∈ TM.words p m, t.length ≤ p.length + m.length := by
  induction m with
  | nil => intro p t ht; by_cases h : p = [] <;> simp [TM.words, h] at ht; subst ht; simp
  | cons c u ih =>
    intro p t ht
    by_cases hc : c.toNat = 32
    · by_cases h : p = []
      · simp [TM.words, hc, h] at ht
        have := ih [] t ht
        simp at this ⊢; omega
      · simp [TM.words, hc, h] at ht
        rcases ht with rfl | ht
        · simp
        · have := ih [] t ht
          simp at this ⊢; omega
    · simp [TM.words, hc] at ht
      have := ih (p ++ [c]) t ht
      simp at this ⊢; omega
theorem left_take (r : RL) (ws : List (List UInt8)) (k : Nat) (h : k < ws.length) : leftB r (ws.take (k + 1)) = leftB r (ws.take k) ++ left1 r ws[k] := by
  unfold leftB
  rw [List.take_succ_eq_append_getElem h, List.flatMap_append]; simp
theorem left1_le (r : RL) (t : List UInt8) : (left1 r t).length ≤ 1 := by unfold left1; split <;> simp
theorem left_le (r : RL) (ws : List (List UInt8)) : (leftB r ws).length ≤ ws.length := by
  unfold leftB
  induction ws with
  | nil => simp
  | cons a t ih =>
    have := left1_le r a
    simp only [List.flatMap_cons, List.length_append, List.length_cons]; omega
theorem left1_none (r : RL) (t : List UInt8) (L : ByteArray) (h : lettersOf t = L) (he : L.toList.isEmpty = true) : left1 r t = [] := by
  unfold left1; rw [h, he]; rfl
theorem left1_drop (r : RL) (t : List UInt8) (L : ByteArray) (h : lettersOf t = L) (hd : hasB r.titles L = true) : left1 r t = [] := by
  unfold left1; rw [h, hd]; simp
theorem left1_some (r : RL) (t : List UInt8) (L : ByteArray) (h : lettersOf t = L) (he : L.toList.isEmpty = false) (hd : hasB r.titles L = false) : left1 r t = [canonB r.nicks L] := by
  unfold left1; rw [h, he, hd]; rfl
theorem canon_cases (ps : List (ByteArray × ByteArray)) (x : ByteArray) : canonB ps x = x ∨ ∃ p ∈ ps, canonB ps x = p.2 := by
  unfold canonB
  cases h : ps.find? (fun p => p.1.toList == x.toList) with
  | none => exact .inl rfl
  | some p => exact .inr ⟨p, List.mem_of_find?_eq_some h, rfl⟩
theorem tok_size {s : ByteArray} (h : tokB s = true) : s.size ≤ 64 := by
  unfold tokB at h
  simp only [Bool.and_eq_true, decide_eq_true_eq] at h
  exact h.2.1
theorem right_to {r : RL} (h : rightB r = true) : ∀ p ∈ r.nicks, tokB p.1 = true ∧ tokB p.2 = true ∧ hasB (froms r.nicks) p.2 = false ∧ hasB r.titles p.2 = false := by
  unfold rightB arePairsB makesB at h
  simp only [Bool.and_eq_true, Bool.not_eq_true', List.all_eq_true, areTok_split, List.any_eq_false] at h
  obtain ⟨_, ⟨⟨h1, _⟩, h2⟩, _, h3⟩ := h
  intro p hp
  have := h2 p hp
  unfold toAt at this
  simp only [Bool.and_eq_true, Bool.not_eq_true'] at this
  exact ⟨h1 _ (List.mem_map.2 ⟨p, hp, rfl⟩), this.1, this.2, by simpa using h3 p hp⟩
theorem check_zero {r : RL} (h : checkV r = 0) : rightB r = true := by
  unfold checkV at h
  split at h
  · cases h
  · split at h
    · assumption
    · cases h
theorem letters_size (t : List UInt8) : (lettersOf t).size ≤ t.length := by
  unfold lettersOf
  rw [show (bs (t.filter TM.lower)).size = (t.filter TM.lower).length from size_of_list _]
  exact List.length_filter_le _ _
theorem left_size {r : RL} (hr : rightB r = true) (ws : List (List UInt8)) (hw : ∀ t ∈ ws, t.length ≤ 64) : ∀ x ∈ leftB r ws, x.size ≤ 64 := by
  intro x hx
  unfold leftB at hx
  obtain ⟨t, ht, hx⟩ := List.mem_flatMap.1 hx
  have hl := Nat.le_trans (letters_size t) (hw t ht)
  unfold left1 at hx
  split at hx
  · obtain rfl : x = canonB r.nicks (lettersOf t) := by simpa using hx
    rcases canon_cases r.nicks (lettersOf t) with e | ⟨p, hp, e⟩
    · rw [e]; exact hl
    · rw [e]; exact tok_size (right_to hr p hp).2.1
  · simp at hx

set_option maxRecDepth 100000 in
set_option maxHeartbeats 2000000 in
theorem normalTokens_any (B : Nat) (v : Value) (r : RL) (f : ByteArray) (w : World) (hE : Env w) (h : IsRules B w v r) (hB : B ≤ w.heap.size) (hf : f.size ≤ 1000) :
    Calls Tryd.prog 43 #[v, .string f] w fun e w' => ∃ u, e = .returned u ∧ IsTexts w'.heap.size w' u (leftB r (TM.words [] f.data.toList)) ∧ Below w.heap.size w w' := by
  obtain ⟨i0, hi0, hz0, hz1, hz2⟩ := info_parts strInfo
  have HR := Lib.hid h
  obtain ⟨tv, nv, sv, rfl, -, -, -⟩ := h
  have b0 : Below w.heap.size w (w.alloc (.cells #[tv, nv, sv] 26)) := (Below.refl _ w).alloc (Nat.le_refl _) _
  have HE := Lib.hid (hE.alloc (.cells #[tv, nv, sv] 26))
  clear hE
  go_enter Tryd.func43, Tryd.ntmps43
  go_wp2_with fail
  refine (Tokens_any f _ HE.out (by omega)).mono ?_
  rintro e W1 ⟨u, rfl, ⟨xs, hx, hxl⟩, b1⟩
  have hlen : xs.length ≤ 1001 := by
    have h1 := congrArg List.length hxl
    have h2 := (words_len f.data.toList []).1
    have h3 : f.data.toList.length = f.size := by simp
    simp only [List.length_map] at h1
    omega
  have hsize : ∀ k, ∀ hk : k < xs.length, xs[k].size ≤ 1000 := fun k hk => by
    have hm : xs[k].data.toList ∈ TM.words [] f.data.toList := by rw [← hxl]; exact List.mem_map.2 ⟨xs[k], List.getElem_mem hk, rfl⟩
    have h2 := words_each _ _ _ hm
    have h3 : f.data.toList.length = f.size := by simp
    have h4 : xs[k].data.toList.length = xs[k].size := by simp
    simp at h2; omega
  have HSz := Lib.hid hsize
  clear hsize
  have HXL := Lib.hid hxl
  clear hxl
  have c1 : Below (w.heap.size + 1) (w.alloc (.cells #[tv, nv, sv] 26)) W1 := b1.mono (by simp)
  have hW1 : w.heap.size < W1.heap.size := by have := b1.size; simp at this; omega
  obtain ⟨a, c, rfl, x1, x2, hxc⟩ := hx
  unfold maxLen at x2
  have HX := Lib.hid hxc
  clear hxc
  go_wp2
  go_loopw [5, 12] (fun v i wr => ∃ (k : Nat), k ≤ xs.length ∧ i = .int .i64 k ∧ wr.ownsRow W1.heap.size 9 1 v (leftB r ((xs.map (·.data.toList)).take k)).length ((leftB r ((xs.map (·.data.toList)).take k)).map Value.string) ∧ Below W1.heap.size W1 wr) (fun _ i _ => xs.length - (intOf i).toNat)
  case atStart => exact ⟨0, by omega, rfl, World.ownsRow_nil _ _ _ _, Below.refl _ _⟩
  case round =>
    obtain ⟨k, hk, rfl, hown, hbw⟩ := hrel
    have cr : Below (w.heap.size + 1) (w.alloc (.cells #[tv, nv, sv] 26)) wr := c1.trans (hbw.mono (by omega))
    have br : Below w.heap.size w wr := b0.trans (cr.mono (by omega))
    have hwr := hbw.size
    have HW := Lib.hid hown
    clear hown
    by_cases hlt : k < xs.length
    · obtain ⟨b, o, rfl, hbB, hc⟩ := HX.out.resolve_left (by intro e; rw [e] at hlt; exact absurd hlt (Nat.not_lt_zero _))
      have hc := (hbw.cell (p := ⟨b, o + k, none⟩) hbB).trans (hc k _ (List.getElem?_eq_getElem hlt))
      have hz := HSz.out k hlt
      have HT := Lib.hid (left_take r (xs.map (·.data.toList)) k (by simpa using hlt))
      have hll : (leftB r ((xs.map (·.data.toList)).take k)).length ≤ k := Nat.le_trans (left_le _ _) (List.length_take_le _ _)
      obtain ⟨L, hL⟩ : ∃ L, lettersOf xs[k].data.toList = L := ⟨_, rfl⟩
      have HL := Lib.hid hL
      clear hL
      have hCL := Letters_any xs[k] wr (by omega)
      rw [show (⟨(xs[k].data.toList.filter TM.lower).toArray⟩ : ByteArray) = L from HL.out] at hCL
      have HCL := Lib.hid hCL
      clear hCL
      go_wp2_with fail
      refine HCL.out.mono ?_
      rintro e w1 ⟨rfl, b2⟩
      have bw1 := hbw.trans (b2.mono hwr)
      have cw1 := cr.trans (b2.mono (by have := cr.size; simpa using this))
      have bb1 : Below w.heap.size w w1 := b0.trans (cw1.mono (by omega))
      obtain ⟨g0, g1, g2⟩ := box_cells cw1
      have HW1 := Lib.hid (owns_below HW.out b2)
      cases he : L.toList.isEmpty
      · have HEm := Lib.hid he
        have hne : L.toList ≠ [] := by intro e; rw [e] at he; cases he
        have hneb : (!L.toList.isEmpty) = true := by rw [he]; rfl
        clear he
        go_wp2_with fail
        refine (Dropped_any B _ r L w1 (HR.out.keep (bb1.mono hB)) (Nat.le_trans hB bb1.size)).mono ?_
        rintro e w2 ⟨rfl, b3⟩
        have bw2 := bw1.trans (b3.mono bw1.size)
        have cw2 := cw1.trans (b3.mono (by have := cw1.size; simpa using this))
        have bb2 : Below w.heap.size w w2 := b0.trans (cw2.mono (by omega))
        clear g0 g1 g2
        obtain ⟨g0, g1, g2⟩ := box_cells cw2
        have HW2 := Lib.hid (owns_below HW1.out b3)
        cases hd : hasB r.titles L
        · have HDr := Lib.hid hd
          clear hd
          go_wp2_with fail
          refine (Canonical_any B _ r L w2 (HR.out.keep (bb2.mono hB)) (Nat.le_trans hB bb2.size)).mono ?_
          rintro e w3 ⟨rfl, b4⟩
          have bw3 := bw2.trans (b4.mono bw2.size)
          have hw3 := bw3.size
          have HW3 := Lib.hid (owns_below HW2.out b4)
          clear g0 g1 g2
          generalize hcn : canonB r.nicks L = C at *
          have HCn := Lib.hid hcn
          clear hcn
          go_wp2_with (at_builtin; refine wpList_append_own _ rfl _ _ 23 rfl W1.heap.size 9 i0 (.string ⟨#[]⟩) 1 16 Tryd.underlying23 hi0 hz0 hz1 hz2 rfl (by decide) _ _ _ rfl (HW3.out.alloc _) ⟨w3.heap.size, 0, none⟩ 1 1 [.string C] rfl rfl ?c1 ?c2 ?c3 ?c4 ?c5 ?_)
          case c1 =>
            intro j u hj
            match j, hj with
            | 0, hj => simp at hj; subst hj; simp [Addr.add]
          case c2 => intro u hu; simp at hu; subst hu; rfl
          case c3 => unfold maxLen; omega
          case c4 => omega
          case c5 => first | omega | (simp; omega)
          · intro v' w4 hown' hgrow _
            go_wp2
            refine ⟨⟨k + 1, by omega, by go_num, ?_, ?_⟩, by simp [intOf]; omega⟩
            · rw [HT.out, left1_some r _ L (by rw [List.getElem_map]; exact HL.out) HEm.out HDr.out, HCn.out]
              simpa using hown'
            · exact (bw3.alloc (by omega) _).grown hgrow (by simp; omega) (fun g hg => (HW3.out.lt g hg).1)
        · have HDr := Lib.hid hd
          clear hd g0 g1 g2
          go_wp2
          refine ⟨⟨k + 1, by omega, by go_num, ?_, bw2⟩, by simp [intOf]; omega⟩
          rw [HT.out, left1_drop r _ L (by rw [List.getElem_map]; exact HL.out) HDr.out]
          simpa using HW2.out
      · have HEm := Lib.hid he
        have hne : L.toList = [] := by simpa using he
        have hneb : (!L.toList.isEmpty) = false := by rw [he]; rfl
        clear he g0 g1 g2
        go_wp2
        refine ⟨⟨k + 1, by omega, by go_num, ?_, bw1⟩, by simp [intOf]; omega⟩
        rw [HT.out, left1_none r _ L (by rw [List.getElem_map]; exact HL.out) HEm.out]
        simpa using HW1.out
    · go_wp2
      go_ret
      refine ⟨_, rfl, ?_, br⟩
      have h := HW.out
      rw [List.take_of_length_le (by simp; omega), HXL.out] at h
      exact IsTexts.of_own h
end Go.Proofs.YtfdlmneahanboaaDoor
