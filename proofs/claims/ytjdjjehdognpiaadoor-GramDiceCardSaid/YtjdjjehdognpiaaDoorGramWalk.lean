/- The walks of bigrams, Grams, Positional. -/
import Derived.Test.YtjdjjehdognpiaaDoorGramAppend
namespace Go.Proofs.YtjdjjehdognpiaaDoor
open Go.RowKit
set_option maxRecDepth 100000

theorem extract_two (s : ByteArray) (k : Nat) : (s.extract k (k + 2)).data.toList = (s.data.toList.drop k).take 2 := by
  rw [Lib.extract_data, Nat.add_sub_cancel_left]
theorem owns_nil (base : Nat) (w : World) : OwnsL base w (.slice none 0 0) [] := World.ownsRow_nil _ _ _ _
/-- One text is appended. -/
theorem owns_snoc {base : Nat} {w : World} {v : Value} {ls : List (List UInt8)} {x : ByteArray} (h : w.ownsRow base 9 1 v (ls.length + 1) (ls.map encStr ++ [.string x])) : OwnsL base w v (ls ++ [x.data.toList]) := by
  unfold OwnsL
  rw [List.length_append, List.map_append]
  exact h

theorem words_mem_len (m : List UInt8) : ∀ p, ∀ t ∈ TM.words p m, t.length ≤ p.length + m.length := by
  induction m with
  | nil => intro p t ht; by_cases hp : p = [] <;> simp [TM.words, hp] at ht; subst ht; simp
  | cons c u ih =>
    intro p t ht
    by_cases hc : c.toNat = 32
    · by_cases hp : p = []
      · simp [TM.words, hc, hp] at ht
        have := ih [] t ht
        simp at this ⊢; omega
      · simp [TM.words, hc, hp] at ht
        rcases ht with rfl | ht
        · simp
        · have := ih [] t ht
          simp at this ⊢; omega
    · simp [TM.words, hc] at ht
      have := ih (p ++ [c]) t ht
      simp at this ⊢; omega
theorem owns_below {base : Nat} {w w' : World} {v : Value} {ls : List (List UInt8)} (h : OwnsL base w v ls) (hb : Below w.heap.size w w') (_hB : base ≤ w.heap.size) : OwnsL base w' v ls := by
  rcases h with ⟨h1, h2⟩
  refine ⟨h1, ?_⟩
  rcases h2 with h2 | ⟨g, cap, cur, rfl, hbg, hh, hrest⟩
  · exact .inl h2
  · exact .inr ⟨g, cap, cur, rfl, hbg, (hb.block g (Array.getElem?_eq_some_iff.1 hh).1).trans hh, hrest⟩

set_option maxHeartbeats 1000000 in
theorem bigrams_any (s : ByteArray) (w : World) (hs : s.size ≤ 1048576) :
    Calls Tryd.prog 32 #[.string s] w fun e w' => ∃ v, e = .returned v ∧ OwnsL w.heap.size w' v (GM.bigr s.data.toList) ∧ Below w.heap.size w w' := by
  obtain ⟨i0, hi0, hz0, hz1, hz2⟩ := info_parts strInfo
  go_enter Tryd.func32, Tryd.ntmps32
  go_wp2
  go_loopw [3, 8] (fun v i wr => ∃ (k : Nat) (L : List (List UInt8)), k ≤ s.size ∧ i = .int .i64 k ∧ L.length ≤ k ∧ L = (GM.bigr s.data.toList).take k ∧ OwnsL w.heap.size wr v L ∧ Below w.heap.size w wr) (fun _ i _ => s.size - (intOf i).toNat)
  case atStart => exact ⟨0, [], by omega, rfl, Nat.le_refl _, rfl, owns_nil _ _, Below.refl _ _⟩
  case round =>
    obtain ⟨k, L, hk, rfl, hLk, hLe, hown, hbw⟩ := hrel
    have HW := Lib.hid hown
    have HLE := Lib.hid hLe
    clear hown hLe
    have hsz := hbw.size
    by_cases hlt : k + 1 < s.size
    · have HT := Lib.hid (GM.bigr_take s.data.toList k (by simpa using hlt))
      go_wp2_with (at_builtin; refine wpList_append_own _ rfl _ _ 23 rfl w.heap.size 9 i0 (.string ⟨#[]⟩) 1 16 Tryd.underlying23 hi0 hz0 hz1 hz2 rfl (by decide) _ _ _ rfl (World.ownsRow.alloc HW.out _) ⟨wr.heap.size, 0, none⟩ 1 1 [.string (s.extract k (k + 2))] rfl rfl ?c1 ?c2 ?c3 ?c4 ?c5 ?_)
      case c1 =>
        intro j u hj
        match j, hj with
        | 0, hj => simp at hj; subst hj; simp [Addr.add]
      case c2 => intro u hu; simp at hu; subst hu; rfl
      case c3 => unfold maxLen; omega
      case c4 => omega
      case c5 => simp; omega
      intro v' w2 hown' hgrow _
      have HO := Lib.hid (owns_snoc hown')
      clear hown'
      go_wp2
      refine ⟨⟨k + 1, L ++ [(s.extract k (k + 2)).data.toList], by omega, by go_num, by simp; omega, ?_, HO.out, ?_⟩, by simp [intOf]; omega⟩
      · rw [HT.out, ← extract_two, HLE.out]
      · exact (hbw.alloc (by omega) _).grown hgrow (by simp; omega) (fun g hg => (World.ownsRow.lt HW.out g hg).1)
    · have HA := Lib.hid (GM.bigr_all s.data.toList k (by simp; omega))
      go_wp2
      go_ret
      have := HW.out
      rw [HLE.out, HA.out] at this
      exact ⟨_, rfl, this, hbw⟩

theorem under_size (t : ByteArray) : (⟨#[95]⟩ ++ t ++ ⟨#[95]⟩ : ByteArray).size = t.size + 2 := by
  rw [size_add, size_add]
  have : (⟨#[95]⟩ : ByteArray).size = 1 := rfl
  omega
theorem bigr_under (t : ByteArray) : (⟨#[95]⟩ ++ t ++ ⟨#[95]⟩ : ByteArray).data.toList = 95 :: t.data.toList ++ [95] := by
  rw [data_add, data_add]
  rfl

set_option maxHeartbeats 2000000 in
theorem Grams_any (s : ByteArray) (w : World) (hE : Env w) (hs : s.size ≤ 1048576) :
    Calls Tryd.prog 15 #[.string s] w fun e w' => ∃ v, e = .returned v ∧ OwnsL w.heap.size w' v (GM.gramsL s.data.toList) ∧ Below w.heap.size w w' := by
  have HE := Lib.hid hE
  clear hE
  by_cases h64 : 64 < s.size
  · have HG := Lib.hid (show GM.gramsL s.data.toList = [] by unfold GM.gramsL; rw [if_pos (by simpa using h64)])
    go_enter Tryd.func15, Tryd.ntmps15
    go_wp2
    go_ret
    rw [HG.out]
    exact ⟨_, rfl, owns_nil _ _, Below.refl _ _⟩
  · have HG := Lib.hid (show GM.gramsL s.data.toList = GM.setL (GM.gramsRaw (TM.words [] s.data.toList)) by unfold GM.gramsL; rw [if_neg (by simpa using h64)])
    have hn : (TM.words [] s.data.toList).length ≤ s.size + 1 := by have := (words_len s.data.toList []).1; simpa using this
    have hraw : (GM.gramsRaw (TM.words [] s.data.toList)).length ≤ s.size + 1 := by have := GM.raw_le s.data.toList; simpa using this
    have HR2 := Lib.hid (GM.raw_two (TM.words [] s.data.toList))
    have hmem : ∀ t ∈ TM.words [] s.data.toList, t.length ≤ s.size := by
      intro t ht
      have h1 := words_mem_len s.data.toList [] t ht
      simpa using h1
    have HM := Lib.hid hmem
    clear hmem
    go_enter Tryd.func15, Tryd.ntmps15
    go_wp2_with fail
    refine (Tokens_any s w HE.out hs).mono ?_
    rintro e w1 ⟨v1, rfl, ⟨xs, hx, hxs⟩, b1⟩
    have HXS := Lib.hid hxs
    have hxl : xs.length ≤ s.size + 1 := by rw [← hxs, List.length_map] at hn; exact hn
    rw [← hxs] at HG HM HR2 hraw
    clear hxs hn
    obtain ⟨a, c, rfl, h1, h2, h3⟩ := hx
    have HX := Lib.hid h3
    clear h3
    unfold maxLen at h2
    go_wp2
    go_loopw [3, 12] (fun v i wr => ∃ (k : Nat) (L : List (List UInt8)), k ≤ xs.length ∧ i = .int .i64 k ∧ L = GM.gramsRaw ((xs.map (·.data.toList)).take k) ∧ OwnsL w1.heap.size wr v L ∧ Below w1.heap.size w1 wr) (fun _ i _ => xs.length - (intOf i).toNat)
    case atStart => exact ⟨0, [], by omega, rfl, rfl, owns_nil _ _, Below.refl _ _⟩
    case round =>
      obtain ⟨k, L, hk, rfl, hLe, hown, hbw⟩ := hrel
      have hLl : L.length ≤ s.size + 1 := by rw [hLe]; exact Nat.le_trans (GM.raw_take_le _ k) hraw
      have HW := Lib.hid hown
      have HLE := Lib.hid hLe
      clear hown hLe
      have hsz := hbw.size
      by_cases hlt : k < xs.length
      · obtain ⟨b, o, rfl, hbB, hc⟩ := HX.out.resolve_left (by intro e; rw [e] at hlt; exact absurd hlt (Nat.not_lt_zero _))
        have hcell := (hbw.cell (p := ⟨b, o + k, none⟩) (by show b < w1.heap.size; omega)).trans (hc k _ (List.getElem?_eq_getElem hlt))
        clear hc
        have HT := Lib.hid (GM.raw_take (xs.map (·.data.toList)) k (by simpa using hlt))
        have hxz : xs[k].size ≤ s.size := by have := HM.out xs[k].data.toList (List.mem_map.2 ⟨_, List.getElem_mem hlt, rfl⟩); simpa using this
        have hxk : (xs.map (·.data.toList))[k]'(by simpa using hlt) = xs[k].data.toList := by simp
        rw [hxk] at HT
        clear hxk
        have HLB := Lib.hid (GM.bigr_length (95 :: xs[k].data.toList ++ [95]))
        generalize xs[k] = t at *
        have HBG := Lib.hid (bigrams_any (⟨#[95]⟩ ++ t ++ ⟨#[95]⟩) wr (by rw [under_size]; omega))
        go_wp2_with fail
        refine HBG.out.mono ?_
        rintro e w2 ⟨u, rfl, hu, b2⟩
        rw [bigr_under] at hu
        have HU := Lib.hid hu
        clear hu
        have hul : (GM.bigr (95 :: t.data.toList ++ [95])).length ≤ 70 := by rw [HLB.out]; simp; omega
        generalize GM.bigr (95 :: t.data.toList ++ [95]) = U at *
        have HW2 := Lib.hid (owns_below HW.out b2 hsz)
        have hb2 := b2.size
        go_wp2_with (at_builtin; refine wpList_append_lists rfl _ _ rfl w1.heap.size (by omega) _ L rfl HW2.out _ _ U rfl HU.out (by omega) ?_)
        intro v' w3 hown3 hgrow
        have HO := Lib.hid hown3
        clear hown3
        go_wp2
        refine ⟨⟨k + 1, L ++ U, by omega, by go_num, by rw [HT.out, HLE.out], HO.out, ?_⟩, by simp [intOf]; omega⟩
        exact (hbw.trans (b2.mono hsz)).grown hgrow (by omega) (fun g hg => (World.ownsRow.lt HW2.out g hg).1)
      · obtain rfl : k = xs.length := by omega
        have hL : L = GM.gramsRaw (xs.map (·.data.toList)) := by rw [HLE.out, List.take_of_length_le (by simp)]
        have h2' : ∀ z ∈ L, z.length = 2 := by rw [hL]; exact HR2.out
        have HL := Lib.hid hL
        have HT := Lib.hid (OwnsL.texts HW.out)
        have HZ := Lib.hid (show ∀ x ∈ L.map bs, x.size ≤ 1048576 by
          intro x hx
          obtain ⟨z, hz, rfl⟩ := List.mem_map.1 hx
          have : (bs z).size = z.length := size_of_list z
          rw [this, h2' z hz]
          decide)
        clear hL h2'
        go_wp2_with fail
        refine (Set_any _ _ (L.map bs) wr HT.out (Nat.le_refl _) (by rw [List.length_map]; omega) HZ.out).mono ?_
        rintro e w2 ⟨u, rfl, hu, b2⟩
        rw [map_bs, HL.out, ← HG.out] at hu
        have HU := Lib.hid hu
        clear hu
        go_wp2
        go_ret
        exact ⟨_, rfl, ownsRow_base_a HU.out (Nat.le_trans b1.size hsz), b1.trans ((hbw.trans (b2.mono hsz)).mono b1.size)⟩

theorem place_byte (k : Nat) (h : k < 26) : ((97 + k : Nat) : Int) = ((UInt8.ofNat (97 + k)).toNat : Int) := by rw [UInt8.toNat_ofNat']; omega
theorem pos_two_bytes (k : Nat) (c : UInt8) : (⟨#[UInt8.ofNat (97 + k), c]⟩ : ByteArray).data.toList = [UInt8.ofNat (97 + k), c] := rfl

set_option maxHeartbeats 1000000 in
theorem Positional_any (s : ByteArray) (w : World) (hs : s.size ≤ 1048576) :
    Calls Tryd.prog 17 #[.string s] w fun e w' => ∃ v, e = .returned v ∧ OwnsL w.heap.size w' v (GM.posL s.data.toList) ∧ Below w.heap.size w w' := by
  by_cases h26 : 26 < s.size
  · have HG := Lib.hid (show GM.posL s.data.toList = [] by unfold GM.posL; rw [if_pos (by simpa using h26)])
    go_enter Tryd.func17, Tryd.ntmps17
    go_wp2
    go_ret
    rw [HG.out]
    exact ⟨_, rfl, owns_nil _ _, Below.refl _ _⟩
  · have HG := Lib.hid (show GM.posL s.data.toList = GM.posAt 0 s.data.toList by unfold GM.posL; rw [if_neg (by simpa using h26)])
    obtain ⟨i0, hi0, hz0, hz1, hz2⟩ := info_parts strInfo
    go_enter Tryd.func17, Tryd.ntmps17
    go_wp2
    go_loopw [3, 10] (fun v i wr => ∃ (k : Nat) (L : List (List UInt8)), k ≤ s.size ∧ i = .int .i64 k ∧ L.length ≤ k ∧ L = (GM.posAt 0 s.data.toList).take k ∧ OwnsL w.heap.size wr v L ∧ Below w.heap.size w wr) (fun _ i _ => s.size - (intOf i).toNat)
    case atStart => exact ⟨0, [], by omega, rfl, Nat.le_refl _, rfl, owns_nil _ _, Below.refl _ _⟩
    case round =>
      obtain ⟨k, L, hk, rfl, hLk, hLe, hown, hbw⟩ := hrel
      have HW := Lib.hid hown
      have HLE := Lib.hid hLe
      clear hown hLe
      have hsz := hbw.size
      by_cases hlt : k < s.size
      · have HT := Lib.hid (GM.posAt_take s.data.toList k (by simpa using hlt))
        have k1 : ∀ W : World, _ := fun W => conv2 W (UInt8.ofNat (97 + k)) s[k] (97 + (k : Int)) s[k].toNat (by rw [← place_byte k (by omega)]; push_cast; rfl) rfl
        have HPB := Lib.hid (pos_two_bytes k s[k])
        have hg : (⟨#[UInt8.ofNat (97 + k), s[k]]⟩ : ByteArray) = ⟨#[UInt8.ofNat (97 + k), s[k]]⟩ := rfl
        generalize (⟨#[UInt8.ofNat (97 + k), s[k]]⟩ : ByteArray) = T at k1 HPB
        clear hg
        go_wp2_with (at_builtin; refine wpList_append_own _ rfl _ _ 23 rfl w.heap.size 9 i0 (.string ⟨#[]⟩) 1 16 Tryd.underlying23 hi0 hz0 hz1 hz2 rfl (by decide) _ _ _ rfl (World.ownsRow.alloc (World.ownsRow.alloc HW.out _) _) ⟨wr.heap.size + 1, 0, none⟩ 1 1 [.string T] rfl rfl ?c1 ?c2 ?c3 ?c4 ?c5 ?_)
        case c1 =>
          intro j u hj
          match j, hj with
          | 0, hj => simp at hj; subst hj; simp [Addr.add]
        case c2 => intro u hu; simp at hu; subst hu; rfl
        case c3 => unfold maxLen; omega
        case c4 => omega
        case c5 => simp; omega
        intro v' w2 hown' hgrow _
        have HO := Lib.hid (owns_snoc hown')
        clear hown'
        go_wp2
        refine ⟨⟨k + 1, L ++ [T.data.toList], by omega, by go_num, by simp; omega, ?_, HO.out, ?_⟩, by simp [intOf]; omega⟩
        · rw [HT.out, HPB.out, HLE.out]
          rfl
        · exact ((hbw.alloc (by omega) _).alloc (by simp; omega) _).grown hgrow (by simp; omega) (fun g hg => (World.ownsRow.lt HW.out g hg).1)
      · have hk' : k = s.size := by omega
        have HA := Lib.hid (show (GM.posAt 0 s.data.toList).take k = GM.posAt 0 s.data.toList from List.take_of_length_le (by rw [GM.posAt_length]; simp; omega))
        clear hk'
        go_wp2
        go_ret
        have := HW.out
        rw [HLE.out, HA.out, ← HG.out] at this
        exact ⟨_, rfl, this, hbw⟩
end Go.Proofs.YtjdjjehdognpiaaDoor
