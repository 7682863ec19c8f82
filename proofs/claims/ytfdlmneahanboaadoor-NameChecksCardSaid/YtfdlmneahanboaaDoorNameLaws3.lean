/- The walk of NameExtras. -/
import Derived.Test.YtfdlmneahanboaaDoorNameLaws2
namespace Go.Proofs.YtfdlmneahanboaaDoor
open Go.RowKit
set_option linter.unusedVariables false

theorem words_append (a y : List UInt8) : ∀ p, TM.words p (a ++ 32 :: y) = TM.words p a ++ TM.words [] y := by
  have h32 : (32 : UInt8).toNat = 32 := rfl
  induction a with
  | nil => intro p; by_cases hp : p = [] <;> simp [TM.words, h32, hp]
  | cons c t ih =>
    intro p
    by_cases hc : c.toNat = 32
    · by_cases hp : p = []
      · simp [TM.words, hc, hp, ih]
      · simp [TM.words, hc, hp, ih]
    · simp [TM.words, hc, ih]
def sufX : List ByteArray := [⟨#[32, 49, 50]⟩, ⟨#[32, 55, 32, 56]⟩, ⟨#[]⟩]
/-- Tokens of digits. -/
def Digits (D : List (List UInt8)) : Prop := D = [] ∨ D = [[49, 50]] ∨ D = [[55], [56]]
theorem left_digits (r : RL) {D : List (List UInt8)} (h : Digits D) : leftB r D = [] := by
  have h1 : ∀ t : List UInt8, t = [49, 50] ∨ t = [55] ∨ t = [56] → left1 r t = [] := fun t ht => left1_none r t (lettersOf t) rfl (by
    rw [Lib.toList_data]
    rcases ht with rfl | rfl | rfl <;> decide +kernel)
  rcases h with rfl | rfl | rfl
  · rfl
  · simp [leftB, h1]
  · simp [leftB, h1]
theorem left_append (r : RL) (a b : List (List UInt8)) : leftB r (a ++ b) = leftB r a ++ leftB r b := by unfold leftB; simp
theorem dealt_titles {r : RL} (h : Dealt r) : (∀ t ∈ r.titles, lowB t = true) ∧ r.titles.length ≤ 2 := by
  obtain ⟨t, n, s⟩ := r
  obtain ⟨h1, -, -⟩ := h
  dsimp only at h1
  rcases h1 with rfl | rfl
  · exact ⟨fun t ht => by simp at ht, by simp⟩
  · exact ⟨by show ∀ t ∈ titlesL, lowB t = true; decide, by show titlesL.length ≤ 2; decide⟩
theorem left_titles {r : RL} (h : Dealt r) (us : List ByteArray) (hu : ∀ u ∈ us, u ∈ r.titles) : leftB r (us.map (·.data.toList)) = [] := by
  rw [left_low r us (fun u h' => (dealt_titles h).1 u (hu u h'))]
  unfold keepB
  rw [List.flatMap_eq_nil_iff]
  intro u h'
  exact keep1_drop ((hasB_iff _ _).2 (hu u h'))
/-- A rich text: titles, tokens, digits, in whatever dress. -/
def Rich (r : RL) (ts : List ByteArray) (l : List UInt8) : Prop := l.all TM.plain = true ∧ ∃ (us : List ByteArray) (D : List (List UInt8)), (∀ u ∈ us, u ∈ r.titles) ∧ Digits D ∧ TM.words [] (TM.spell l) = us.map (·.data.toList) ++ (ts.map (·.data.toList) ++ D)
theorem Rich.title {r : RL} {ts : List ByteArray} {l : List UInt8} (hd : Dealt r) (h : Rich r ts l) {t : ByteArray} (ht : t ∈ r.titles) : Rich r ts (t.data.toList ++ [46, 32] ++ l) := by
  obtain ⟨hp, us, D, hu, hD, hw⟩ := h
  have hl := (lowB_lows ((dealt_titles hd).1 t ht)).1
  refine ⟨?_, t :: us, D, fun u h' => ?_, hD, ?_⟩
  · rw [List.all_append, List.all_append, TM.plain_lows hl, hp]; rfl
  · rcases List.mem_cons.1 h' with rfl | h'
    · exact ht
    · exact hu u h'
  · rw [List.append_assoc, TM.spell_lows hl.2]
    show TM.words [] (t.data.toList ++ TM.spell (46 :: 32 :: l)) = _
    rw [TM.spell_sep _ _ (by decide), TM.spell_sep _ _ (by decide), words_cons hl.word_, TM.words_start, hw]
    rfl
theorem soft_join (ts : List ByteArray) (h : ∀ t ∈ ts, lowB t = true) : (joinB ts).data.toList.all TM.soft = true := by
  unfold joinB
  rw [list_bs]
  refine TM.join_all (by decide) _ (fun l hl => ?_)
  obtain ⟨t, ht, rfl⟩ := List.mem_map.1 hl
  exact TM.soft_of _ (lowB_lows (h t ht)).1.2
theorem Rich.start {r : RL} {ts : List ByteArray} (hl : ∀ t ∈ ts, lowB t = true) {d p : ByteArray} (hd : Dressed (joinB ts).data.toList d.data.toList) (hp : p ∈ sufX) : Rich r ts (d ++ p).data.toList := by
  obtain ⟨pre, body, post, hr, hpre, hpost, hb⟩ := hd
  have hs := soft_join ts hl
  rw [data_add, hr]
  have hpd : p.data.toList = [32, 49, 50] ∨ p.data.toList = [32, 55, 32, 56] ∨ p.data.toList = [] := by
    unfold sufX at hp
    simp only [List.mem_cons, List.not_mem_nil, or_false] at hp
    rcases hp with rfl | rfl | rfl
    · exact .inl rfl
    · exact .inr (.inl rfl)
    · exact .inr (.inr rfl)
  refine ⟨?_, ?_⟩
  · rw [List.all_append, List.all_append, List.all_append, TM.plain_drs _ _ hb hs]
    rcases hpre with rfl | rfl | rfl <;> rcases hpost with rfl | rfl | rfl <;> rcases hpd with e | e | e <;> rw [e] <;> decide
  · have h0 : TM.words [] (TM.spell (pre ++ body ++ post ++ p.data.toList)) = TM.words [] (TM.spell (body ++ (post ++ p.data.toList))) := by
      rcases hpre with rfl | rfl | rfl
      · simp
      · show TM.words [] (TM.spell (32 :: (body ++ post ++ p.data.toList))) = _
        rw [TM.spell_sep _ _ (by decide), TM.words_start, List.append_assoc]
      · show TM.words [] (TM.spell (45 :: (body ++ post ++ p.data.toList))) = _
        rw [TM.spell_sep _ _ (by decide), TM.words_start, List.append_assoc]
    rw [h0, TM.words_drs _ _ _ _ hb hs]
    have hw := join_words ts hl
    have key : ∀ y : List UInt8, ∀ D, TM.words [] y = D → Digits D → ∃ (us : List ByteArray) (D : List (List UInt8)), (∀ u ∈ us, u ∈ r.titles) ∧ Digits D ∧ TM.words [] ((joinB ts).data.toList ++ 32 :: y) = us.map (·.data.toList) ++ (ts.map (·.data.toList) ++ D) := fun y D hy hD =>
      ⟨[], D, by simp, hD, by rw [words_append, hw, hy]; simp⟩
    rcases hpost with rfl | rfl | rfl <;> rcases hpd with e | e | e <;> rw [e]
    · exact key [49, 50] [[49, 50]] (by decide +kernel) (.inr (.inl rfl))
    · exact key [55, 32, 56] [[55], [56]] (by decide +kernel) (.inr (.inr rfl))
    · exact ⟨[], [], by simp, .inl rfl, by rw [show TM.spell ([] ++ []) = [] from by decide +kernel, List.append_nil, hw]; simp⟩
    · exact key [32, 49, 50] [[49, 50]] (by decide +kernel) (.inr (.inl rfl))
    · exact key [32, 55, 32, 56] [[55], [56]] (by decide +kernel) (.inr (.inr rfl))
    · exact key [] [] (by decide +kernel) (.inl rfl)
    · exact key [32, 49, 50] [[49, 50]] (by decide +kernel) (.inr (.inl rfl))
    · exact key [32, 55, 32, 56] [[55], [56]] (by decide +kernel) (.inr (.inr rfl))
    · exact key [] [] (by decide +kernel) (.inl rfl)
theorem rich_norm {r : RL} (h : Dealt r) {ts : List ByteArray} (hl : ∀ t ∈ ts, lowB t = true) (hlen : ts.length ≤ 6) {s : ByteArray} (hr : Rich r ts s.data.toList) (hs : s.size ≤ 64) : normVal r s = (joinB (keepB r ts), 0) := by
  obtain ⟨hp, us, D, hu, hD, hw⟩ := hr
  have hv : validB s = true := by
    have h2 : s.data.toList.length = s.size := by simp
    unfold validB TM.valid
    rw [TM.ok_all _ hp, h2]
    simp [hs]
  have ht : normToks r s = keepB r ts := by
    unfold normToks
    rw [TM.words_fold, hw, left_append, left_append, left_titles h us hu, left_digits r hD, left_low r ts hl]
    simp
  have hx : normTxt r s = joinB (keepB r ts) := by unfold normTxt joinB; rw [ht]
  have h1 := keep_le r ts
  have h2 := join_low (keepB r ts) (keep_low h ts hl) (by omega)
  rw [norm_fine s (dealt_check h) hv (by rw [ht, hx]; omega), hx]

set_option maxRecDepth 100000 in
set_option maxHeartbeats 4000000 in
theorem NameExtras_walk (A : Option Addr) (n c : Nat) (w : World) (hE : Env w) (hI : IntsArg w A n c) :
    Calls Tryd.prog 5 #[.slice A n c] w fun e w' => e = .returned (.bool true) ∧ Below w.heap.size w w' := by
  obtain ⟨i0, hi0, hz0, hz1, hz2⟩ := info_parts strInfo
  have HE := Lib.hid hE
  have HI := Lib.hid hI
  clear hE hI
  go_enter Tryd.func5, Tryd.ntmps5
  go_wp2_with fail
  refine (awake2_any w HE.out).mono ?_
  rintro e w1 ⟨rfl, b1⟩
  go_wp2_with fail
  refine (Few_any A n c w1 (Nat.le_trans HI.out.1 HI.out.2.1)).mono ?_
  rintro e w1' ⟨rfl, rfl⟩
  have hE1 := Lib.hid (HE.out.below b1 HE.out.size)
  by_cases hn : n ≤ 400
  · have hd : decide (n ≤ 400) = true := by simp [hn]
    rw [hd]
    clear hd
    go_wp2_with fail
    refine (New_any A n c w1 (HI.out.below b1)).mono ?_
    rintro e w2 ⟨rfl, hd2, b2⟩
    generalize hg : w1.heap.size = g at *
    have HG := Lib.hid hg
    clear hg
    have hgw : w.heap.size ≤ g := by rw [← HG.out]; exact b1.size
    go_wp2_with fail
    refine (Rules_any g w2 hd2).mono ?_
    rintro e w3 ⟨v, r, rfl, hrp, hdl, hd3, g3⟩
    have hr := hrp.plain
    obtain ⟨tv, nv, sv, rfl, ⟨⟨ta, tc, htv, -, -, -⟩, -⟩, ⟨⟨na, nc, hnv, -, -, -⟩, -⟩, ⟨⟨ua, uc, hsv, -, -, -⟩, -⟩⟩ := hrp
    have HDl := Lib.hid hdl
    clear hdl
    have b3 : Below w.heap.size w w3 := (b1.trans (b2.mono hgw)).trans (below_of_grown g3 hgw (Nat.le_trans hgw (Nat.le_of_lt hd2.lt)))
    have b4 : Below w.heap.size w (w3.alloc (.cells #[tv, nv, sv] 26)) := b3.alloc b3.size _
    have HR := Lib.hid (hr.keep (below_alloc w3 (.cells #[tv, nv, sv] 26)))
    have HB := Lib.hid (Box.new w3 tv nv sv)
    have hd4 := hd3.alloc (.cells #[tv, nv, sv] 26)
    have hp : w3.heap.size < (w3.alloc (.cells #[tv, nv, sv] 26)).heap.size := by simp
    have hpg : w3.heap.size ≠ g := by have := hd3.lt; omega
    clear hr
    obtain ⟨W0, hW0⟩ : ∃ W, w3.alloc (.cells #[tv, nv, sv] 26) = W := ⟨_, rfl⟩
    subst htv hnv hsv
    rw [hW0] at b4 HR HB hd4 hp
    go_wp2_with fail
    clear hW0
    generalize Value.slice na r.nicks.length nc = nv at *
    generalize Value.slice ua r.streets.length uc = sv at *
    generalize hpp : w3.heap.size = p at *
    have HPp := Lib.hid hpp
    clear hpp
    refine (Next_any g W0 hd4 4 (by omega) (by omega)).mono ?_
    rintro e w5 ⟨x, rfl, ⟨hx0, hx1⟩, hd5, g5⟩
    obtain ⟨m, rfl⟩ := Int.eq_ofNat_of_zero_le hx0
    have hm : m < 4 := by omega
    have hgW : g < W0.heap.size := hd4.lt
    go_wp2
    go_loopw [5, 6] (fun a i wr => ∃ (k : Nat) (ts : List ByteArray), ts.length + k ≤ 3 ∧ i = .int .i64 k ∧ (∀ t ∈ ts, lowB t = true) ∧
        wr.ownsRow W0.heap.size 9 1 a ts.length (ts.map Value.string) ∧ Deck g wr ∧ W0.grownBy wr (some g)) (fun _ i _ => (intOf i).toNat)
    case atStart => exact ⟨m, [], by simp; omega, by go_num, by simp, World.ownsRow_nil _ _ _ _, hd5, g5⟩
    case round =>
      obtain ⟨k, ts, hk, rfl, hts, ha, hd, hg⟩ := hrel
      have HT := Lib.hid hts
      have HA := Lib.hid ha
      clear hts ha
      have hsz := hg.size
      by_cases h0 : 0 < k
      · have hlen : ts.length ≤ 2 := by omega
        go_wp2_with fail
        refine (Token_any g wr hd).mono ?_
        rintro e w6 ⟨t, rfl, ht, hd6, g6⟩
        have HTk := Lib.hid ht
        clear ht
        have hg6 := grown_trans hg g6
        have hsz6 := hg6.size
        have HA6 := Lib.hid (owns_grown HA.out g6 (fun q hq e => by have := (owns_at HA.out e).1; injection hq with hq; omega))
        go_wp2_with (at_builtin; refine wpList_append_own _ rfl _ _ 23 rfl W0.heap.size 9 i0 (.string ⟨#[]⟩) 1 16 Tryd.underlying23 hi0 hz0 hz1 hz2 rfl (by decide) _ _ _ rfl (HA6.out.alloc _) ⟨w6.heap.size, 0, none⟩ 1 1 [.string t] rfl rfl ?c1 ?c2 ?c3 ?c4 ?c5 ?_)
        case c1 =>
          intro j u hj
          match j, hj with
          | 0, hj => simp at hj; subst hj; simp [Addr.add]
        case c2 => intro u hu; simp at hu; subst hu; rfl
        case c3 => unfold maxLen; omega
        case c4 => omega
        case c5 => first | omega | (simp; omega)
        · intro v' w7 hown hgrow _
          have hg7 : W0.grownBy w7 (some g) := grown_own (grown_alloc hg6 (.cells #[.string t] 9)) hgrow (fun q hq => (owns_at HA6.out hq).1)
          have hd7 : Deck g w7 := (hd6.alloc _).own hgrow (fun q hq => by have := (owns_at HA6.out hq).1; omega)
          go_wp2
          exact ⟨⟨k - 1, ts ++ [t], by simp; omega, by go_num, all_snoc HT.out HTk.out, by simpa using hown, hd7, hg7⟩, by simp [intOf]; omega⟩
      · have hlen : ts.length ≤ 6 := by omega
        have hTs := IsTexts.of_own HA.out
        have hJ := rJoin_any wr.heap.size _ ts wr hTs (by omega) (fun x hx => by have := low_size (HT.out x hx); omega)
        replace hJ : Calls Tryd.prog 29 #[_] wr fun e w' => e = .returned (.string (joinB ts)) ∧ wr = w' := hJ
        have hjz := join_low ts HT.out hlen
        have HN := Lib.hid (norm_join HDl.out ts HT.out hlen)
        obtain ⟨ja, jc, rfl, -, -, -⟩ := hTs
        have HJ := Lib.hid hJ
        clear hJ
        have HST := Lib.hid (fun (d p : ByteArray) => Rich.start (r := r) (ts := ts) (d := d) (p := p) HT.out)
        have HRN := Lib.hid (fun (s : ByteArray) => rich_norm HDl.out (ts := ts) (s := s) HT.out hlen)
        generalize joinB (keepB r ts) = J at *
        generalize joinB ts = S at *
        go_wp2_with fail
        refine HJ.out.mono ?_
        rintro e w6 ⟨rfl, rfl⟩
        obtain ⟨W1, hW1⟩ : ∃ W, W = wr := ⟨_, rfl⟩
        subst hW1
        go_wp2_with fail
        refine (Dress_any g W1 hd S (by omega)).mono ?_
        rintro e w7 ⟨d, rfl, hdz, hdr, hd7, g7⟩
        have hg7 := grown_trans hg g7
        go_wp2_with fail
        refine (Pick_lit g w7 sufX hd7 (by decide) (by decide)).mono ?_
        rintro e w8 ⟨q, hq, rfl, hd8, g8⟩
        have hqz : q.size ≤ 4 := by
          have : ∀ s ∈ sufX, s.size ≤ 4 := by decide
          exact this q hq
        have HRc := Lib.hid (HST.out d q hdr hq)
        clear hdr hq
        have hg8 := grown_trans hg7 g8
        have hsz8 := hg8.size
        have hdqz : (d ++ q).size ≤ 120 := by rw [size_add]; omega
        obtain ⟨c0, c1, c2⟩ := HB.out.grown hg8 hp hpg
        have htl := dealt_titles HDl.out
        have HTl := Lib.hid htl.1
        have htn := htl.2
        clear htl
        go_wp2
        go_loopw [8, 50] (fun a i wr => ∃ (k : Nat) (s : ByteArray), k ≤ r.titles.length ∧ i = .int .i64 k ∧ a = .string s ∧ s.size ≤ 120 + 20 * k ∧ Rich r ts s.data.toList ∧ Deck g wr ∧ W0.grownBy wr (some g)) (fun _ i _ => r.titles.length - (intOf i).toNat)
        case atStart => exact ⟨0, d ++ q, by omega, rfl, rfl, by omega, HRc.out, hd8, hg8⟩
        case round =>
          obtain ⟨k2, s, hk2, rfl, rfl, hsz2, hrich, hdr, hgr⟩ := hrel
          have HRi := Lib.hid hrich
          clear hrich c0 c1 c2
          have hszr := hgr.size
          by_cases hlt : k2 < r.titles.length
          · obtain ⟨tv', nv', sv', he, htx, -, -⟩ := HR.out.grown hd4 hgr (Nat.le_of_lt hp)
            simp only [Value.agg.injEq, Array.mk.injEq, List.cons.injEq, and_true] at he
            obtain ⟨rfl, -, -⟩ := he
            obtain ⟨b, o, cc, hv, -, z2, hlb, hcell⟩ := htx.at_ (by intro e; rw [e] at hlt; exact absurd hlt (Nat.not_lt_zero _))
            simp only [Value.slice.injEq] at hv
            obtain ⟨rfl, -, rfl⟩ := hv
            have hc := hcell k2 hlt
            clear hcell htx
            have htz := low_size (HTl.out _ (List.getElem_mem hlt))
            have HRi2 := Lib.hid (HRi.out.title HDl.out (List.getElem_mem hlt))
            generalize r.titles[k2] = t at *
            go_wp2_with fail
            refine (One_any g _ hdr 2 (by omega) (by omega)).mono ?_
            rintro e w9 ⟨b9, rfl, hd9, g9⟩
            have hg9 := grown_trans hgr g9
            cases b9
            · go_wp2
              exact ⟨⟨k2 + 1, s, by omega, by go_num, rfl, by omega, HRi.out, hd9, hg9⟩, by simp [intOf]; omega⟩
            · go_wp2
              refine ⟨⟨k2 + 1, _, by omega, by go_num, rfl, ?_, ?_, hd9, hg9⟩, by simp [intOf]; omega⟩
              · rw [size_add, size_add]; show _ + 2 + _ ≤ _; omega
              · rw [data_add, data_add]; exact HRi2.out
          · have br : Below w.heap.size w wr := b4.trans (below_of_grown hgr hgw b4.size)
            have HBr := Lib.hid (HB.out.grown hgr hp hpg)
            have HRr := Lib.hid (HR.out.grown hd4 hgr (Nat.le_of_lt hp))
            have hN1 := Normalise_any p _ r S wr (HE.out.below br HE.out.size) HRr.out (by omega) (by unfold maxLen; omega)
            rw [HN.out] at hN1
            unfold normRet at hN1
            have HN1 := Lib.hid hN1
            clear hN1
            obtain ⟨c0, c1, c2⟩ := HBr.out
            go_wp2_with fail
            refine HN1.out.mono ?_
            rintro e x1 ⟨rfl, d1⟩
            have d1' := br.trans (d1.mono br.size)
            clear c0 c1 c2
            obtain ⟨c0, c1, c2⟩ := HBr.out.below d1 (by omega)
            by_cases hz : s.size ≤ 64
            · have hN2 := Normalise_any p _ r s x1 (HE.out.below d1' HE.out.size) (HRr.out.keep (d1.mono (by omega))) (by have := d1.size; omega) (by unfold maxLen; omega)
              rw [HRN.out s HRi.out hz] at hN2
              unfold normRet at hN2
              have HN2 := Lib.hid hN2
              clear hN2
              have hzn : ¬ (64 : Int) < (s.size : Int) := by omega
              go_wp2_with fail
              refine HN2.out.mono ?_
              rintro e x2 ⟨rfl, d2⟩
              clear c0 c1 c2
              go_wp2
              go_ret
              exact ⟨rfl, d1'.trans (d2.mono d1'.size)⟩
            · have hN2 := Normalise_any p _ r s x1 (HE.out.below d1' HE.out.size) (HRr.out.keep (d1.mono (by omega))) (by have := d1.size; omega) (by unfold maxLen; omega)
              unfold normRet at hN2
              have HN2 := Lib.hid hN2
              clear hN2
              generalize normVal r s = pv at *
              have hzn : (64 : Int) < (s.size : Int) := by omega
              go_wp2_with fail
              refine HN2.out.mono ?_
              rintro e x2 ⟨rfl, d2⟩
              clear c0 c1 c2
              go_wp2
              go_ret
              exact ⟨rfl, d1'.trans (d2.mono d1'.size)⟩
  · have hd : decide (n ≤ 400) = false := by simp; omega
    rw [hd]
    clear hd
    go_wp2_with fail
    refine (awake2_any w1 hE1.out).mono ?_
    rintro e w2 ⟨rfl, b2⟩
    go_wp2
    go_ret
    exact ⟨rfl, b1.trans (b2.mono b1.size)⟩
end Go.Proofs.YtfdlmneahanboaaDoor
