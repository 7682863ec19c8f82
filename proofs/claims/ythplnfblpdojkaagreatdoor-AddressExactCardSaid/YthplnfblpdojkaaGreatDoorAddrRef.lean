/- Walks of the reference of layer 4. -/
import Derived.Test.YthplnfblpdojkaaGreatDoorAddrNorm
import Derived.Test.YthplnfblpdojkaaGreatDoorDeckBent
namespace Go.Proofs.YthplnfblpdojkaaGreatDoor
open Go.RowKit
set_option linter.unusedVariables false
set_option maxRecDepth 100000

theorem rnumber_any (s : ByteArray) (w : World) :
    Calls Tryz.prog 69 #[.string s] w fun e w' => e = .returned (.bool (numB s)) ∧ w = w' := by
  by_cases h : 0 < s.size
  · have HN := Lib.hid (num_at s h)
    have hne : (!s.toList.isEmpty) = true := by
      rw [Lib.toList_data]
      have h0 := drop_at s 0 h
      simp only [List.drop_zero] at h0
      rw [h0]; rfl
    have hb := s[0].toNat_lt
    go_enter Tryz.func69, Tryz.ntmps69
    go_wp2
    all_goals go_ret
    all_goals exact ⟨ret_bool (by rw [HN.out]; unfold TM.digit; rw [Bool.eq_iff_iff]; simp; omega), rfl⟩
  · have h0 := drop_end s 0 (by omega)
    simp only [List.drop_zero] at h0
    have HN := Lib.hid (show numB s = false by unfold numB; rw [h0]; rfl)
    have hne : (!s.toList.isEmpty) = false := by
      rw [Lib.toList_data, h0]; rfl
    clear h0
    go_enter Tryz.func69, Tryz.ntmps69
    go_wp2
    all_goals go_ret
    all_goals exact ⟨ret_bool HN.out.symm, rfl⟩

def rtrimB (s : ByteArray) : ByteArray := bs (TM.rtrim s.data.toList)
theorem two_list (x : ByteArray) (h : 1 < x.size) : x.data.toList = x[0] :: x[1] :: x.data.toList.drop 2 := by
  have h0 := drop_at x 0 (by omega)
  have h1 := drop_at x 1 h
  simp only [List.drop_zero, Nat.zero_add] at h0
  exact h0.trans (by rw [h1])
theorem rtrim_step (x : ByteArray) (h : 1 < x.size) (h0 : (x[0].toNat : Int) = 48) (h1 : (48 : Int) ≤ x[1].toNat) (h2 : (x[1].toNat : Int) ≤ 57) : TM.rtrim (x.extract 1 x.size).data.toList = TM.rtrim x.data.toList := by
  rw [extract_list]
  have e := two_list x h
  have e1 := drop_at x 1 h
  conv => rhs; rw [e]
  rw [e1]
  conv => rhs; unfold TM.rtrim
  rw [if_pos ⟨by omega, by unfold TM.digit; simp; omega⟩]
theorem rtrim_stop (x : ByteArray) (h : 1 < x.size) (hn : ¬ ((x[0].toNat : Int) = 48 ∧ (48 : Int) ≤ x[1].toNat ∧ (x[1].toNat : Int) ≤ 57)) : TM.rtrim x.data.toList = x.data.toList := by
  have e := two_list x h
  conv => lhs; rw [e]
  conv => rhs; rw [e]
  unfold TM.rtrim
  rw [if_neg]
  rintro ⟨a, b⟩
  unfold TM.digit at b
  simp at b
  omega
theorem rtrim_short (x : ByteArray) (h : ¬ 1 < x.size) : TM.rtrim x.data.toList = x.data.toList := by
  have hs := sizeL x
  generalize x.data.toList = l at *
  match l, hs with
  | [], _ => rfl
  | [a], _ => rfl
  | a :: b :: t, hs => simp at hs; omega

set_option maxHeartbeats 1000000 in
theorem rtrimmed_any (s : ByteArray) (w : World) (hm : s.size ≤ 1000000) :
    Calls Tryz.prog 44 #[.string s] w fun e w' => e = .returned (.string (rtrimB s)) ∧ w = w' := by
  go_enter Tryz.func44, Tryz.ntmps44
  go_wp2
  go_loop [0] (fun v => ∃ x : ByteArray, v = .string x ∧ TM.rtrim x.data.toList = TM.rtrim s.data.toList ∧ x.size ≤ 1000000) (fun v => Lib.strSize v)
  case atStart => exact ⟨s, rfl, rfl, hm⟩
  case round =>
    obtain ⟨x, rfl, hx, hxs⟩ := hrel
    have HX := Lib.hid hx
    clear hx
    by_cases h : 1 < x.size
    · have HS := Lib.hid (rtrim_step x h)
      have HN := Lib.hid (rtrim_stop x h)
      have h0 : 0 < x.size := by omega
      go_wp2
      all_goals first
        | (go_ret
           refine ⟨ret_str ?_, rfl⟩
           show x = bs (TM.rtrim s.data.toList)
           rw [← HX.out, HN.out (by omega)]; rfl)
        | (refine ⟨⟨x.extract 1 x.size, rfl, ?_, ?_⟩, ?_⟩
           · rw [HS.out (by omega) (by omega) (by omega)]; exact HX.out
           · simp; omega
           · simp [Lib.strSize_string]; omega)
    · have HN := Lib.hid (rtrim_short x h)
      have h' : ¬ (1 : Int) < (x.size : Int) := by omega
      go_wp2
      go_ret
      refine ⟨ret_str ?_, rfl⟩
      show x = bs (TM.rtrim s.data.toList)
      rw [← HX.out, HN.out]; rfl

set_option maxRecDepth 100000 in
set_option maxHeartbeats 2000000 in
theorem rparts_any (B : Nat) (v : Value) (xs : List ByteArray) (w : World) (h : IsTexts B w v xs) (hB : B ≤ w.heap.size) (hl : xs.length ≤ 100000) :
    Calls Tryz.prog 41 #[v] w fun e w' => ∃ a b, e = .returned (.tuple #[a, b]) ∧ Pair2 w.heap.size w' a b (restOf xs) (numsOf xs) ∧ Below w.heap.size w w' := by
  obtain ⟨i0, hi0, hz0, hz1, hz2⟩ := info_parts strInfo
  obtain ⟨a, c, rfl, h1, h2, h3⟩ := h
  have HX := Lib.hid h3
  clear h3
  unfold maxLen at h2
  go_enter Tryz.func41, Tryz.ntmps41
  go_wp2
  go_loopw [4, 5, 6] (fun v u i wr => ∃ (k : Nat), k ≤ xs.length ∧ i = .int .i64 k ∧ Pair2 w.heap.size wr v u (restOf (xs.take k)) (numsOf (xs.take k)) ∧ Below w.heap.size w wr) (fun _ _ i _ => xs.length - (intOf i).toNat)
  case atStart => exact ⟨0, by omega, rfl, ⟨World.ownsRow_nil _ _ _ _, World.ownsRow_nil _ _ _ _, .inl rfl, .inl rfl⟩, Below.refl _ _⟩
  case round =>
    obtain ⟨k, hk, rfl, hp, hbw⟩ := hrel
    have HP := Lib.hid hp
    clear hp
    have hwr := hbw.size
    by_cases hlt : k < xs.length
    · obtain ⟨b, o, rfl, hbB, hc⟩ := HX.out.resolve_left (by intro e; rw [e] at hlt; exact absurd hlt (Nat.not_lt_zero _))
      have hc := (hbw.cell (p := ⟨b, o + k, none⟩) (by show b < w.heap.size; omega)).trans (hc k _ (List.getElem?_eq_getElem hlt))
      have HT1 := Lib.hid (nums_take xs k hlt)
      have HT2 := Lib.hid (rest_take xs k hlt)
      have hl1 : (numsOf (xs.take k)).length ≤ k := Nat.le_trans (nums_len _) (List.length_take_le _ _)
      have hl2 : (restOf (xs.take k)).length ≤ k := Nat.le_trans (rest_len _) (List.length_take_le _ _)
      have hr0 : IsTexts B wr (.slice none 0 0) [] := ⟨none, 0, rfl, Nat.le_refl _, Nat.zero_le _, .inl rfl⟩
      clear hr0
      go_wp2_with fail
      refine (rnumber_any xs[k] _).mono ?_
      rintro e w' ⟨rfl, rfl⟩
      cases hn : numB xs[k]
      · have HN := Lib.hid hn
        clear hn
        go_wp2_with (at_builtin; refine wpList_append_own _ rfl _ _ 23 rfl w.heap.size 9 i0 (.string ⟨#[]⟩) 1 16 Tryz.underlying23 hi0 hz0 hz1 hz2 rfl (by decide) _ _ _ rfl (HP.out.one.alloc _) ⟨wr.heap.size, 0, none⟩ 1 1 [.string xs[k]] rfl rfl ?c1 ?c2 ?c3 ?c4 ?c5 ?_)
        case c1 =>
          intro j u hj
          match j, hj with
          | 0, hj => simp at hj; subst hj; simp [Addr.add]
        case c2 => intro u hu; simp at hu; subst hu; rfl
        case c3 => unfold maxLen; omega
        case c4 => omega
        case c5 => simp; omega
        · intro v' w2 hown' hgrow _
          have hkept := (HP.out.two.alloc (.cells #[.string xs[k]] 9)).kept hgrow (by
            rcases rows_apart (HP.out.two) (HP.out.one) HP.out.n2 HP.out.n1 (num_rest _ _) with h | h
            · exact .inl h
            · exact .inr h)
          go_wp2
          refine ⟨⟨k + 1, by omega, by go_num, ?_, ?_⟩, by simp [intOf]; omega⟩
          · rw [HT1.out, HT2.out, HN.out]
            exact ⟨by simpa using hown', by simpa using hkept, .inr (by simp), by simpa using HP.out.n2⟩
          · exact (hbw.alloc (by omega) _).grown hgrow (by simp; omega) (fun g hg => (HP.out.one.lt g hg).1)
      · have HN := Lib.hid hn
        clear hn
        go_wp2_with (at_builtin; refine wpList_append_own _ rfl _ _ 23 rfl w.heap.size 9 i0 (.string ⟨#[]⟩) 1 16 Tryz.underlying23 hi0 hz0 hz1 hz2 rfl (by decide) _ _ _ rfl (HP.out.two.alloc _) ⟨wr.heap.size, 0, none⟩ 1 1 [.string xs[k]] rfl rfl ?c1 ?c2 ?c3 ?c4 ?c5 ?_)
        case c1 =>
          intro j u hj
          match j, hj with
          | 0, hj => simp at hj; subst hj; simp [Addr.add]
        case c2 => intro u hu; simp at hu; subst hu; rfl
        case c3 => unfold maxLen; omega
        case c4 => omega
        case c5 => simp; omega
        · intro v' w2 hown' hgrow _
          have hkept := (HP.out.one.alloc (.cells #[.string xs[k]] 9)).kept hgrow (by
            rcases rows_apart (HP.out.one) (HP.out.two) HP.out.n1 HP.out.n2 (fun x hx y hy e => num_rest _ _ y hy x hx e.symm) with h | h
            · exact .inl h
            · exact .inr h)
          go_wp2
          refine ⟨⟨k + 1, by omega, by go_num, ?_, ?_⟩, by simp [intOf]; omega⟩
          · rw [HT1.out, HT2.out, HN.out]
            exact ⟨by simpa using hkept, by simpa using hown', by simpa using HP.out.n1, .inr (by simp)⟩
          · exact (hbw.alloc (by omega) _).grown hgrow (by simp; omega) (fun g hg => (HP.out.two.lt g hg).1)
    · go_wp2
      go_ret2
      have h1 := HP.out
      rw [List.take_of_length_le (by omega)] at h1
      exact ⟨_, _, rfl, h1, hbw⟩

/-- A list of which the first k have been replaced. -/
def mix (f : ByteArray → ByteArray) (xs : List ByteArray) (k : Nat) : List ByteArray := (xs.take k).map f ++ xs.drop k
theorem mix_zero (f : ByteArray → ByteArray) (xs : List ByteArray) : mix f xs 0 = xs := by simp [mix]
theorem mix_all (f : ByteArray → ByteArray) (xs : List ByteArray) : mix f xs xs.length = xs.map f := by simp [mix]
theorem mix_len (f : ByteArray → ByteArray) (xs : List ByteArray) (k : Nat) : (mix f xs k).length = xs.length := by unfold mix; simp; omega
theorem mix_at (f : ByteArray → ByteArray) (xs : List ByteArray) (k : Nat) (h : k < xs.length) : (mix f xs k)[k]? = some xs[k] := by
  unfold mix
  rw [List.getElem?_append_right (by simp; omega)]
  simp
  rw [show k - min k xs.length = 0 by omega, Nat.add_zero, List.getElem?_eq_getElem h]
theorem mix_set (f : ByteArray → ByteArray) (xs : List ByteArray) (k : Nat) (h : k < xs.length) : (mix f xs k).set k (f xs[k]) = mix f xs (k + 1) := by
  unfold mix
  rw [List.set_append_right _ _ (by simp; omega)]
  have e : k - ((xs.take k).map f).length = 0 := by simp; omega
  rw [e, List.drop_eq_getElem_cons h, List.set_cons_zero, List.take_succ_eq_append_getElem h, List.map_append, List.append_assoc]
  rfl
end Go.Proofs.YthplnfblpdojkaaGreatDoor
