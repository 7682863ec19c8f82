/- The walks of TextTokens and TextPairs. -/
import Derived.Test.YthkekcjgnlccdaaDoorLawsB
namespace Go.Proofs.YthkekcjgnlccdaaDoor
open Go.RowKit

theorem texts_lists {B : Nat} {w : World} {v : Value} {xs : List ByteArray} (h : IsTexts B w v xs) : IsLists B w v (xs.map (·.data.toList)) := ⟨xs, h, rfl⟩
theorem join_low (xs : List ByteArray) (h : ∀ x ∈ xs, lowB x = true) : TM.words [] (TM.join (xs.map (·.data.toList))) = xs.map (·.data.toList) := by
  refine TM.words_join _ (fun t ht => ?_)
  obtain ⟨x, hx, rfl⟩ := List.mem_map.1 ht
  exact (low_lows (h x hx)).1.word_
theorem join_size (xs : List ByteArray) (M : Nat) (h : ∀ x ∈ xs, x.size ≤ M) : (TM.join (xs.map (·.data.toList))).length ≤ xs.length * (M + 1) := by
  have := join_len (xs.map (·.data.toList)) M (by
    intro l hl
    obtain ⟨x, hx, rfl⟩ := List.mem_map.1 hl
    rw [size_list]
    exact h x hx)
  simpa using this

set_option maxHeartbeats 2000000 in
theorem TextTokens_walk (A : Option Addr) (n c : Nat) (w : World) (hE : Env w) (hI : IntsArg w A n c) :
    Calls Tryd.prog 6 #[.slice A n c] w fun e w' => e = .returned (.bool true) ∧ Below w.heap.size w w' := by
  obtain ⟨i0, hi0, hz0, hz1, hz2⟩ := info_parts strInfo
  have HE := Lib.hid hE
  have HI := Lib.hid hI
  clear hE hI
  go_enter Tryd.func6, Tryd.ntmps6
  go_wp2_with fail
  refine (awake_any w HE.out).mono ?_
  rintro e w1 ⟨rfl, b1⟩
  go_wp2_with fail
  refine (Few_any A n c w1 (Nat.le_trans HI.out.1 HI.out.2.1)).mono ?_
  rintro e w1' ⟨rfl, rfl⟩
  have hE1 := Lib.hid (HE.out.below b1 HE.out.size)
  by_cases hn : n ≤ 400
  · have hd : decide (n ≤ 400) = true := by simp [hn]
    rw [hd]
    clear hd
    go_wp2_with fail
    refine (New_any A n c w1 (HI.out.below b1)).mono ?_
    rintro e w2 ⟨rfl, hd2, b2⟩
    generalize hg : w1.heap.size = g at *
    have HG := Lib.hid hg
    clear hg
    go_wp2_with fail
    refine (Text_any g w2 hd2).mono ?_
    rintro e w3 ⟨t, rfl, ht, hd3, g3⟩
    have hgw : w.heap.size ≤ g := by rw [← HG.out]; exact b1.size
    have b3 : Below w.heap.size w w3 := (b1.trans (b2.mono hgw)).trans (below_of_grown g3 hgw (Nat.le_trans hgw (Nat.le_of_lt hd2.lt)))
    go_wp2_with fail
    -- what the reference's Fold gives: a text that is the joined words of itself
    obtain ⟨s, ev, hfv, hsz, hjs⟩ : ∃ (s : ByteArray) (ev : Int), foldVal t = .tuple #[.string s, .int .i64 ev] ∧ s.size ≤ 64 ∧ TM.join (TM.words [] s.data.toList) = s.data.toList := by
      by_cases hv : validB t = true
      · obtain ⟨_, _, q3⟩ := folded_val t hv
        refine ⟨bs (TM.fold t.data.toList), 0, by simp [foldVal, hv], q3, ?_⟩
        rw [list_bs, TM.words_fold]
        rfl
      · exact ⟨⟨#[]⟩, 3, by simp [foldVal, hv], by decide, rfl⟩
    have HJ := Lib.hid hjs
    have FV := Lib.hid hfv
    clear hjs hfv
    refine (rFold_is _ _ w3 (by omega) FV.out).mono ?_
    rintro e w4 ⟨rfl, b4⟩
    have hd4 := hd3.below b4 hd3.lt
    have b4' : Below w.heap.size w w4 := b3.trans (b4.mono b3.size)
    go_wp2_with fail
    refine (Next_any g w4 hd4 6 (by omega) (by omega)).mono ?_
    rintro e w5 ⟨m0, rfl, ⟨hm0, hm1⟩, hd5, g5⟩
    obtain ⟨m, rfl⟩ := Int.eq_ofNat_of_zero_le hm0
    have hm : m < 6 := by omega
    have b5 : Below w.heap.size w w5 := b4'.trans (below_of_grown g5 hgw b4'.size)
    have hb45 := b5.size
    go_wp2
    go_loopw [6, 7] (fun v i wr => ∃ (k : Nat) (xs : List ByteArray), k + xs.length = m ∧ i = .int .i64 k ∧ (∀ x ∈ xs, lowB x = true) ∧ wr.ownsRow (g + 1) 9 1 v xs.length (xs.map Value.string) ∧ Deck g wr ∧ Below g w5 wr) (fun _ i _ => (intOf i).toNat)
    case atStart => exact ⟨m, [], by simp, by go_num, by simp, World.ownsRow_nil _ _ _ _, hd5, Below.refl _ _⟩
    case round =>
      obtain ⟨k, xs, hk, rfl, hlow, hown, hd, hg⟩ := hrel
      have HLow := Lib.hid hlow
      clear hlow
      have HW := Lib.hid hown
      clear hown
      have hxl : xs.length ≤ 6 := by omega
      by_cases h0 : 0 < k
      · go_wp2_with fail
        refine (Token_any g wr hd).mono ?_
        rintro e w6 ⟨tk, rfl, htk, hd6, g6⟩
        have HTk := Lib.hid htk
        clear htk
        have hown6 := HW.out.kept (row := some g) g6 (by
          rcases HW.out.2 with ⟨hv, _⟩ | ⟨gg, cap, cur, hv, hbg, _⟩
          · left; rw [hv]; rfl
          · right; rw [hv]; simp [Value.ownBlock]; omega)
        have HW6 := Lib.hid hown6
        clear hown6
        have hgl := hd6.lt
        go_wp2_with (at_builtin; refine wpList_append_own _ rfl _ _ 23 rfl (g + 1) 9 i0 (.string ⟨#[]⟩) 1 16 Tryd.underlying23 hi0 hz0 hz1 hz2 rfl (by decide) _ _ _ rfl (HW6.out.alloc _) ⟨w6.heap.size, 0, none⟩ 1 1 [.string tk] rfl rfl ?c1 ?c2 ?c3 ?c4 ?c5 ?_)
        case c1 =>
          intro j u hj
          match j, hj with
          | 0, hj => simp at hj; subst hj; simp [Addr.add]
        case c2 => intro u hu; simp at hu; subst hu; rfl
        case c3 => unfold maxLen; omega
        case c4 => omega
        case c5 => simp; omega
        intro v' w7 hown' hgrow _
        go_wp2
        have hbl : Below (g + 1) w6 w7 := ((Below.refl _ w6).alloc (by omega) _).grown hgrow (by simp; omega) (fun q hq => (HW6.out.lt q hq).1)
        refine ⟨⟨k - 1, xs ++ [tk], by simp; omega, by go_num, ?_, by simpa using hown', hd6.below hbl (Nat.lt_succ_self _), ?_⟩, by simp [intOf]; omega⟩
        · intro x hx
          rcases List.mem_append.1 hx with hx | hx
          · exact HLow.out x hx
          · simp at hx; subst hx; exact HTk.out
        · exact (hg.trans (below_of_grown g6 (Nat.le_refl _) (Nat.le_of_lt hd.lt))).trans (hbl.mono (Nat.le_succ _))
      · have hx := IsTexts.of_own HW.out
        have hEr := Lib.hid (HE.out.below (b5.trans (hg.mono hgw)) HE.out.size)
        have br : Below w.heap.size w wr := b5.trans (hg.mono hgw)
        have hz8 : ∀ x ∈ xs, x.size ≤ 8 := fun x hx => low_size (HLow.out x hx)
        have hjl := join_size xs 8 hz8
        have HX := Lib.hid hx
        have HZ := Lib.hid hz8
        clear hx hz8
        go_wp2_with fail
        refine (Tokens_any s wr hEr.out (by omega)).mono ?_
        rintro e w6 ⟨v1, rfl, ⟨ys, hy, hyl⟩, b6⟩
        have hylen : ys.length ≤ 65 := by
          have h1 := congrArg List.length hyl
          have h2 := (words_len s.data.toList []).1
          rw [size_list] at h2
          simp at h1
          omega
        have HYL := Lib.hid hyl
        clear hyl
        go_wp2_with fail
        refine (Join_any _ v1 ys w6 hy (Nat.le_refl _) (by omega) (by rw [HYL.out, HJ.out, size_list]; omega)).mono ?_
        rintro e w7 ⟨rfl, b7⟩
        rw [HYL.out, HJ.out, bs_list]
        have b7' : Below wr.heap.size wr w7 := b6.trans (b7.mono b6.size)
        have HX7 := Lib.hid (HX.out.keep b7')
        go_wp2_with fail
        refine (Join_any _ _ xs w7 HX7.out b7'.size (by omega) (by omega)).mono ?_
        rintro e w8 ⟨rfl, b8⟩
        have b8' : Below wr.heap.size wr w8 := b7'.trans (b8.mono b7'.size)
        have hE8 := Lib.hid (hEr.out.below b8' hEr.out.size)
        go_wp2_with fail
        refine (Tokens_any _ w8 hE8.out (by
          have : (bs (TM.join (xs.map (·.data.toList)))).size = (TM.join (xs.map (·.data.toList))).length := size_of_list _
          omega)).mono ?_
        rintro e w9 ⟨v2, rfl, ⟨zs, hzs, hzl⟩, b9⟩
        rw [list_bs, join_low xs HLow.out] at hzl
        have HZL := Lib.hid hzl
        clear hzl
        have b9' : Below wr.heap.size wr w9 := b8'.trans (b9.mono b8'.size)
        have HX9 := Lib.hid ((HX.out.keep b9').more b9'.size)
        go_wp2_with fail
        refine (rSame_any _ v2 _ zs xs w9 hzs HX9.out).mono ?_
        rintro e w10 ⟨rfl, b10⟩
        have hsame : sameB zs xs = true := by unfold sameB; rw [HZL.out]; simp
        rw [hsame]
        clear hsame
        go_wp2
        go_ret
        exact ⟨rfl, br.trans ((b9'.trans (b10.mono b9'.size)).mono br.size)⟩
  · have hd : decide (n ≤ 400) = false := by simp; omega
    rw [hd]
    clear hd
    go_wp2_with fail
    refine (awake_any w1 hE1.out).mono ?_
    rintro e w2 ⟨rfl, b2⟩
    go_wp2
    go_ret
    exact ⟨rfl, b1.trans (b2.mono b1.size)⟩
/-- The two halves of the table are replaced alike, but for the last ones. -/
theorem halves : ∀ n : Fin 32, TM.second (UInt8.ofNat (128 + n.val)) = true ∧ TM.second (UInt8.ofNat (128 + n.val + 32)) = true ∧ (TM.repl (UInt8.ofNat (128 + n.val))).length ≤ 2 ∧ (TM.repl (UInt8.ofNat (128 + n.val))).all TM.lower = true ∧
    (if n.val = 31 then TM.repl (UInt8.ofNat (128 + n.val)) = [115, 115] ∧ TM.repl (UInt8.ofNat (128 + n.val + 32)) = [121] else TM.repl (UInt8.ofNat (128 + n.val)) = TM.repl (UInt8.ofNat (128 + n.val + 32))) ∧ (TM.repl (UInt8.ofNat (128 + n.val + 32))).all TM.lower = true := by decide +kernel

theorem fold_lows {l : List UInt8} (h : l.all TM.lower = true) : TM.join (TM.words [] l) = l := by
  by_cases h0 : l = []
  · subst h0; rfl
  · have := TM.words_free l (TM.lows.word_ ⟨h0, h⟩).2 [] []
    rw [List.append_nil, List.nil_append] at this
    rw [this, TM.words, if_neg h0]
    rfl
theorem pair_val (d : UInt8) (h : TM.second d = true) (hl : (TM.repl d).all TM.lower = true) : foldVal (⟨#[195]⟩ ++ ⟨#[d]⟩) = .tuple #[.string (bs (TM.repl d)), .int .i64 0] := by
  have e : (⟨#[195]⟩ ++ ⟨#[d]⟩ : ByteArray).data.toList = [195, d] := by rw [data_add]; rfl
  have hv : validB (⟨#[195]⟩ ++ ⟨#[d]⟩) = true := by
    unfold validB TM.valid
    rw [e]
    simp [TM.ok, TM.plain, h]
  have hf : TM.fold [195, d] = TM.repl d := by
    unfold TM.fold
    rw [TM.spell_pair 195 d [] (by decide), TM.spell_nil, List.append_nil, fold_lows hl]
  unfold foldVal
  rw [hv, if_pos rfl, e, hf]

set_option maxHeartbeats 2000000 in
theorem TextPairs_walk (k : UInt8) (w : World) (hE : Env w) :
    Calls Tryd.prog 7 #[.int .u8 k.toNat] w fun e w' => e = .returned (.bool true) ∧ Below w.heap.size w w' := by
  have HE := Lib.hid hE
  clear hE
  have hk := k.toNat_lt
  obtain ⟨n, hn⟩ : ∃ n : Nat, n = k.toNat % 32 := ⟨_, rfl⟩
  have hn32 : n < 32 := by omega
  have HN := Lib.hid (show (k.toNat : Int) % 32 = (n : Int) by omega)
  have hmod : (k.toNat : Int) % 32 = (n : Int) := HN.out
  clear hn
  obtain ⟨x, hx⟩ : ∃ x : UInt8, x.toNat = 128 + n := ⟨UInt8.ofNat (128 + n), by rw [UInt8.toNat_ofNat']; omega⟩
  obtain ⟨y, hy⟩ : ∃ y : UInt8, y.toNat = 128 + n + 32 := ⟨UInt8.ofNat (128 + n + 32), by rw [UInt8.toNat_ofNat']; omega⟩
  have hh := halves ⟨n, hn32⟩
  simp only at hh
  rw [← hx, UInt8.ofNat_toNat, hx, ← hy, UInt8.ofNat_toNat] at hh
  obtain ⟨h1, h2, h3, h4, h5, h6⟩ := hh
  have HX := Lib.hid (pair_val x h1 h4)
  have HY := Lib.hid (pair_val y h2 h6)
  have k1 : ∀ W : World, _ := fun W => conv1 W x (128 + (n : Int)) (by omega)
  have k2 : ∀ W : World, _ := fun W => conv1 W y (128 + (n : Int) + 32) (by omega)
  have HL3 := Lib.hid h3
  have H4 := Lib.hid h4
  have H5 := Lib.hid h5
  clear h1 h2 h3 h4 h5 h6 hx hy
  go_enter Tryd.func7, Tryd.ntmps7
  go_wp2_with fail
  refine (awake_any w HE.out).mono ?_
  rintro e w1 ⟨rfl, b1⟩
  have hE1 := Lib.hid (HE.out.below b1 HE.out.size)
  go_wp2_with fail
  refine (Fold_is _ _ _ (hE1.out.alloc _) (by rw [size_add]; show 1 + 1 ≤ _; omega) HX.out).mono ?_
  rintro e w2 ⟨rfl, b2⟩
  have b2' : Below w.heap.size w w2 := (b1.alloc b1.size _).trans (b2.mono (by simp; have := b1.size; omega))
  have hE2 := Lib.hid (HE.out.below b2' HE.out.size)
  go_wp2_with fail
  refine (Fold_is _ _ _ (hE2.out.alloc _) (by rw [size_add]; show 1 + 1 ≤ _; omega) HY.out).mono ?_
  rintro e w3 ⟨rfl, b3⟩
  have b3' : Below w.heap.size w w3 := (b2'.alloc b2'.size _).trans (b3.mono (by simp; have := b2'.size; omega))
  have hE3 := Lib.hid (HE.out.below b3' HE.out.size)
  go_wp2_with fail
  refine (Fold_is ⟨#[97, 195]⟩ (.tuple #[.string ⟨#[]⟩, .int .i64 3]) w3 hE3.out (by decide) (by
    have : validB ⟨#[97, 195]⟩ = false := by decide +kernel
    simp [foldVal, this])).mono ?_
  rintro e w4 ⟨rfl, b4⟩
  have b4' : Below w.heap.size w w4 := b3'.trans (b4.mono b3'.size)
  have hE4 := Lib.hid (HE.out.below b4' HE.out.size)
  go_wp2_with fail
  refine (Fold_is ⟨#[195, 192]⟩ (.tuple #[.string ⟨#[]⟩, .int .i64 3]) w4 hE4.out (by decide) (by
    have : validB ⟨#[195, 192]⟩ = false := by decide +kernel
    simp [foldVal, this])).mono ?_
  rintro e w5 ⟨rfl, b5⟩
  have b5' : Below w.heap.size w w5 := b4'.trans (b5.mono b4'.size)
  have hz : (bs (TM.repl x)).size ≤ 2 := by
    have : (bs (TM.repl x)).size = (TM.repl x).length := size_of_list _
    have := HL3.out
    omega
  have hlet : (⟨((bs (TM.repl x)).data.toList.filter TM.lower).toArray⟩ : ByteArray) = bs (TM.repl x) := by
    rw [list_bs, List.filter_eq_self.2 (fun c hc => List.all_eq_true.1 H4.out c hc)]
    rfl
  have HLet := Lib.hid hlet
  clear hlet
  by_cases h31 : n = 31
  · have e := H5.out
    rw [if_pos h31] at e
    have e1 : bs (TM.repl x) = ⟨#[115, 115]⟩ := by rw [e.1]; rfl
    have e2 : bs (TM.repl y) = ⟨#[121]⟩ := by rw [e.2]; rfl
    rw [e1] at HLet hz
    rw [e1, e2]
    have h31i : ((n : Int) == 31) = true := by simp; omega
    clear e e1 e2 h31
    go_wp2_with fail
    refine (rLetters_any _ w5 (by decide)).mono ?_
    rintro e w6 ⟨rfl, rfl⟩
    rw [HLet.out]
    go_wp2
    go_ret
    exact ⟨rfl, b5'⟩
  · have e := H5.out
    rw [if_neg h31] at e
    rw [← e]
    have h31i : ((n : Int) == 31) = false := by simp; omega
    clear e h31
    generalize bs (TM.repl x) = sx at *
    go_wp2_with fail
    refine (rLetters_any _ w5 (by omega)).mono ?_
    rintro e w6 ⟨rfl, rfl⟩
    rw [HLet.out]
    go_wp2
    go_ret
    exact ⟨rfl, b5'⟩
end Go.Proofs.YthkekcjgnlccdaaDoor
