/- The walk of NameOrder. -/
import Derived.Test.YtfdlmneahanboaaDoorNameLaws1
import Derived.Deep.AppendLies
namespace Go.Proofs.YtfdlmneahanboaaDoor
open Go.RowKit
set_option linter.unusedVariables false

theorem owns_at {base n k q : Nat} {T : TypeId} {w : World} {v : Value} {cs : List Value} (h : w.ownsRow base T k v n cs) (hq : v.ownBlock = some q) : base ≤ q ∧ q < w.heap.size := by
  rcases h.2 with ⟨rfl, -⟩ | ⟨g, cap, cur, rfl, hbg, hg, -⟩
  · cases hq
  · obtain rfl : g = q := by simpa [Value.ownBlock] using hq
    exact ⟨hbg, (Array.getElem?_eq_some_iff.1 hg).1⟩
theorem owns_grown {base n k : Nat} {T : TypeId} {w w' : World} {v : Value} {cs : List Value} {x : Option Nat} (h : w.ownsRow base T k v n cs) (hg : w.grownBy w' x) (hne : ∀ q, x = some q → v.ownBlock ≠ some q) : w'.ownsRow base T k v n cs := by
  refine ⟨h.1, ?_⟩
  rcases h.2 with h2 | ⟨g, cap, cur, rfl, hbg, hh, hrest⟩
  · exact .inl h2
  · exact .inr ⟨g, cap, cur, rfl, hbg, (hg.block g (Array.getElem?_eq_some_iff.1 hh).1 (fun e => hne g e.symm rfl)).trans hh, hrest⟩
theorem grown_own {a w w' : World} {g : Nat} {x : Option Nat} (h : a.grownBy w (some g)) (k : w.grownBy w' x) (hx : ∀ q, x = some q → a.heap.size ≤ q) : a.grownBy w' (some g) :=
  ⟨k.os.trans h.os, k.tape.trans h.tape, k.output.trans h.output, Nat.le_trans h.size k.size, fun i hi hn => (k.block i (Nat.lt_of_lt_of_le hi h.size) (fun e => by have := hx i e.symm; omega)).trans (h.block i hi hn)⟩
theorem Deck.own {w w' : World} {g : Nat} {x : Option Nat} (h : Deck g w) (k : w.grownBy w' x) (hx : ∀ q, x = some q → g < q) : Deck g w' :=
  h.keep fun j hj => k.block j (Nat.lt_of_le_of_lt hj h.lt) (fun e => by have := hx j e.symm; omega)
theorem join_fine (ts : List ByteArray) (h : ∀ t ∈ ts, lowB t = true) : (joinB ts).data.toList.all TM.fine = true := by
  unfold joinB
  rw [list_bs]
  refine TM.join_all (by decide) _ (fun l hl => ?_)
  obtain ⟨t, ht, rfl⟩ := List.mem_map.1 hl
  exact low_fine (h t ht)
theorem join_words (ts : List ByteArray) (h : ∀ t ∈ ts, lowB t = true) : TM.words [] (joinB ts).data.toList = ts.map (·.data.toList) := by
  unfold joinB
  rw [list_bs]
  refine TM.words_join _ (fun l hl => ?_)
  obtain ⟨t, ht, rfl⟩ := List.mem_map.1 hl
  exact (lowB_lows (h t ht)).1.word_
theorem norm_join {r : RL} (h : Dealt r) (ts : List ByteArray) (hl : ∀ t ∈ ts, lowB t = true) (hlen : ts.length ≤ 6) : normVal r (joinB ts) = (joinB (keepB r ts), 0) :=
  norm_dealt h _ ts (join_fine ts hl) (by have := join_low ts hl hlen; omega) (join_words ts hl) hl hlen
theorem keep1_drop {r : RL} {t : ByteArray} (h : hasB r.titles t = true) : keep1 r t = [] := by unfold keep1; rw [h]; rfl
theorem keep1_stay {r : RL} {t : ByteArray} (h : hasB r.titles t = false) : keep1 r t = [canonB r.nicks t] := by unfold keep1; rw [h]; rfl

set_option maxRecDepth 100000 in
set_option maxHeartbeats 4000000 in
theorem NameOrder_walk (A : Option Addr) (n c : Nat) (w : World) (hE : Env w) (hI : IntsArg w A n c) :
    Calls Tryd.prog 7 #[.slice A n c] w fun e w' => e = .returned (.bool true) ∧ Below w.heap.size w w' := by
  obtain ⟨i0, hi0, hz0, hz1, hz2⟩ := info_parts strInfo
  have HE := Lib.hid hE
  have HI := Lib.hid hI
  clear hE hI
  go_enter Tryd.func7, Tryd.ntmps7
  go_wp2_with fail
  refine (awake2_any w HE.out).mono ?_
  rintro e w1 ⟨rfl, b1⟩
  go_wp2_with fail
  refine (Few_any A n c w1 (Nat.le_trans HI.out.1 HI.out.2.1)).mono ?_
  rintro e w1' ⟨rfl, rfl⟩
  have hE1 := Lib.hid (HE.out.below b1 HE.out.size)
  by_cases hn : n ≤ 400
  · have hd : decide (n ≤ 400) = true := by simp [hn]
    rw [hd]
    clear hd
    go_wp2_with fail
    refine (New_any A n c w1 (HI.out.below b1)).mono ?_
    rintro e w2 ⟨rfl, hd2, b2⟩
    generalize hg : w1.heap.size = g at *
    have HG := Lib.hid hg
    clear hg
    have hgw : w.heap.size ≤ g := by rw [← HG.out]; exact b1.size
    go_wp2_with fail
    refine (Rules_any g w2 hd2).mono ?_
    rintro e w3 ⟨v, r, rfl, hrp, hdl, hd3, g3⟩
    have hr := hrp.plain
    obtain ⟨tv, nv, sv, rfl, ⟨⟨ta, tc, htv, -, -, -⟩, -⟩, ⟨⟨na, nc, hnv, -, -, -⟩, -⟩, ⟨⟨ua, uc, hsv, -, -, -⟩, -⟩⟩ := hrp
    have HDl := Lib.hid hdl
    clear hdl
    have b3 : Below w.heap.size w w3 := (b1.trans (b2.mono hgw)).trans (below_of_grown g3 hgw (Nat.le_trans hgw (Nat.le_of_lt hd2.lt)))
    have b4 : Below w.heap.size w (w3.alloc (.cells #[tv, nv, sv] 26)) := b3.alloc b3.size _
    have HR := Lib.hid (hr.keep (below_alloc w3 (.cells #[tv, nv, sv] 26)))
    have HB := Lib.hid (Box.new w3 tv nv sv)
    have hd4 := hd3.alloc (.cells #[tv, nv, sv] 26)
    have hp : w3.heap.size < (w3.alloc (.cells #[tv, nv, sv] 26)).heap.size := by simp
    have hpg : w3.heap.size ≠ g := by have := hd3.lt; omega
    clear hr
    obtain ⟨W0, hW0⟩ : ∃ W, w3.alloc (.cells #[tv, nv, sv] 26) = W := ⟨_, rfl⟩
    subst htv hnv hsv
    rw [hW0] at b4 HR HB hd4 hp
    go_wp2_with fail
    clear hW0
    generalize Value.slice ta r.titles.length tc = tv at *
    generalize Value.slice na r.nicks.length nc = nv at *
    generalize Value.slice ua r.streets.length uc = sv at *
    generalize hpp : w3.heap.size = p at *
    have HPp := Lib.hid hpp
    clear hpp
    refine (Next_any g W0 hd4 7 (by omega) (by omega)).mono ?_
    rintro e w5 ⟨x, rfl, ⟨hx0, hx1⟩, hd5, g5⟩
    obtain ⟨m, rfl⟩ := Int.eq_ofNat_of_zero_le hx0
    have hm : m < 7 := by omega
    have hgW : g < W0.heap.size := hd4.lt
    go_wp2
    go_loopw [5, 6, 7] (fun a b i wr => ∃ (k : Nat) (ts : List ByteArray), ts.length + k ≤ 6 ∧ i = .int .i64 k ∧ (∀ t ∈ ts, lowB t = true) ∧
        wr.ownsRow W0.heap.size 9 1 a ts.length (ts.map Value.string) ∧ wr.ownsRow W0.heap.size 9 1 b (keepB r ts).length ((keepB r ts).map Value.string) ∧
        (∀ q, a.ownBlock = some q → b.ownBlock ≠ some q) ∧ Deck g wr ∧ W0.grownBy wr (some g)) (fun _ _ i _ => (intOf i).toNat)
    case atStart => exact ⟨m, [], by simp; omega, by go_num, by simp, World.ownsRow_nil _ _ _ _, World.ownsRow_nil _ _ _ _, (fun q hq => by cases hq), hd5, g5⟩
    case round =>
      obtain ⟨k, ts, hk, rfl, hts, ha, hb, hab, hd, hg⟩ := hrel
      have HT := Lib.hid hts
      have HA := Lib.hid ha
      have HBb := Lib.hid hb
      have HAB := Lib.hid hab
      clear hts ha hb hab
      have HBr := Lib.hid (HB.out.grown hg hp hpg)
      have HRr := Lib.hid (HR.out.grown hd4 hg (Nat.le_of_lt hp))
      have hsz := hg.size
      have br : Below w.heap.size w wr := b4.trans (below_of_grown hg hgw b4.size)
      by_cases h0 : 0 < k
      · have hlen : ts.length ≤ 5 := by omega
        have hkl := keep_le r ts
        go_wp2_with fail
        refine (Token_any g wr hd).mono ?_
        rintro e w6 ⟨t, rfl, ht, hd6, g6⟩
        have HTk := Lib.hid ht
        clear ht
        have hg6 := grown_trans hg g6
        have hsz6 := hg6.size
        have HA6 := Lib.hid (owns_grown HA.out g6 (fun q hq e => by have := (owns_at HA.out e).1; injection hq with hq; omega))
        have HB6 := Lib.hid (owns_grown HBb.out g6 (fun q hq e => by have := (owns_at HBb.out e).1; injection hq with hq; omega))
        go_wp2_with (at_builtin; refine wpList_append_lies _ rfl _ _ 23 rfl W0.heap.size 9 i0 (.string ⟨#[]⟩) 1 16 Tryd.underlying23 hi0 hz0 hz1 hz2 rfl (by decide) _ _ _ rfl (HA6.out.alloc _) ⟨w6.heap.size, 0, none⟩ 1 1 [.string t] rfl rfl ?c1 ?c2 (by omega) ?c3 ?c4 ?c5 (w6.heap.size + 1) (by simp) ?_)
        case c1 =>
          intro j u hj
          match j, hj with
          | 0, hj => simp at hj; subst hj; simp [Addr.add]
        case c2 => intro u hu; simp at hu; subst hu; rfl
        case c3 => unfold maxLen; omega
        case c4 => omega
        case c5 => first | omega | (simp; omega)
        · intro gg cap w7 hown hgrow hat hlt7
          have hal := grown_alloc hg6 (.cells #[.string t] 9)
          have hg7 : W0.grownBy w7 (some g) := grown_own hal hgrow (fun q hq => (owns_at HA6.out hq).1)
          have hd7 : Deck g w7 := (hd6.alloc _).own hgrow (fun q hq => by have := (owns_at HA6.out hq).1; omega)
          have HB7 := Lib.hid (owns_grown (HB6.out.alloc (.cells #[.string t] 9)) hgrow (fun q hq => HAB.out q hq))
          have hsz7 := hg7.size
          have HAB7 : Hid (∀ q, some gg = some q → u6.ownBlock ≠ some q) := Lib.hid (fun q (hq : some gg = some q) => by
            obtain rfl : gg = q := by simpa using hq
            rcases hat with hat | hat
            · exact HAB.out gg hat
            · intro e
              have := (owns_at HB6.out e).2
              omega)
          have hown' : w7.ownsRow W0.heap.size 9 1 (.slice (some ⟨gg, 0, none⟩) (ts.length + 1) cap) (ts ++ [t]).length ((ts ++ [t]).map Value.string) := by simpa using hown
          have HA7 := Lib.hid hown'
          clear hown hown' hat
          obtain ⟨c0, c1, c2⟩ := HB.out.grown hg7 hp hpg
          have HR7 := Lib.hid (HR.out.grown hd4 hg7 (Nat.le_of_lt hp))
          go_wp2_with fail
          refine (Dropped_any p _ r t w7 HR7.out (by omega)).mono ?_
          rintro e w8 ⟨rfl, b8⟩
          have hd8 := hd7.below b8 hd7.lt
          have hg8 := grown_below hg7 b8 hsz7
          have hsz8 := hg8.size
          have HA8 := Lib.hid (owns_below HA7.out b8)
          have HB8 := Lib.hid (owns_below HB7.out b8)
          clear c0 c1 c2
          cases hdr : hasB r.titles t
          · have HDr := Lib.hid hdr
            clear hdr
            obtain ⟨c0, c1, c2⟩ := HB.out.grown hg8 hp hpg
            go_wp2_with fail
            refine (Canonical_any p _ r t w8 (HR.out.grown hd4 hg8 (Nat.le_of_lt hp)) (by omega)).mono ?_
            rintro e w9 ⟨rfl, b9⟩
            have hd9 := hd8.below b9 hd8.lt
            have hg9 := grown_below hg8 b9 hsz8
            have hsz9 := hg9.size
            have HA9 := Lib.hid (owns_below HA8.out b9)
            have HB9 := Lib.hid (owns_below HB8.out b9)
            clear c0 c1 c2
            generalize hcn : canonB r.nicks t = C at *
            have HCn := Lib.hid hcn
            clear hcn
            go_wp2_with (at_builtin; refine wpList_append_lies _ rfl _ _ 23 rfl W0.heap.size 9 i0 (.string ⟨#[]⟩) 1 16 Tryd.underlying23 hi0 hz0 hz1 hz2 rfl (by decide) _ _ _ rfl (HB9.out.alloc _) ⟨w9.heap.size, 0, none⟩ 1 1 [.string C] rfl rfl ?d1 ?d2 (by omega) ?d3 ?d4 ?d5 (w9.heap.size + 1) (by simp) ?_)
            case d1 =>
              intro j u hj
              match j, hj with
              | 0, hj => simp at hj; subst hj; simp [Addr.add]
            case d2 => intro u hu; simp at hu; subst hu; rfl
            case d3 => unfold maxLen; omega
            case d4 => omega
            case d5 => first | omega | (simp; omega)
            · intro gb capb w10 hownb hgrowb hatb hltb
              have halb := grown_alloc hg9 (.cells #[.string C] 9)
              have hg10 : W0.grownBy w10 (some g) := grown_own halb hgrowb (fun q hq => (owns_at HB9.out hq).1)
              have hd10 : Deck g w10 := (hd9.alloc _).own hgrowb (fun q hq => by have := (owns_at HB9.out hq).1; omega)
              have HA10 := Lib.hid (owns_grown (HA9.out.alloc (.cells #[.string C] 9)) hgrowb (fun q hq e => HAB7.out q e hq))
              have HAB10 := Lib.hid (fun q (hq : some gg = some q) (e : some gb = some q) => by
                have e1 : gg = q := by simpa using hq
                have e2 : gb = q := by simpa using e
                subst e1
                rcases hatb with hatb | hatb
                · exact absurd (e2 ▸ hatb) (HAB7.out gg rfl)
                · have := (owns_at HA9.out (show Value.ownBlock _ = some gg from rfl)).2
                  omega : ∀ q, some gg = some q → some gb = some q → False)
              have hownb' : w10.ownsRow W0.heap.size 9 1 (.slice (some ⟨gb, 0, none⟩) ((keepB r ts).length + 1) capb) (keepB r (ts ++ [t])).length ((keepB r (ts ++ [t])).map Value.string) := by
                rw [keep_snoc, keep1_stay HDr.out, HCn.out]
                simpa using hownb
              have HB10 := Lib.hid hownb'
              clear hownb hownb' hatb hgrowb halb
              go_wp2
              exact ⟨⟨k - 1, ts ++ [t], by simp; omega, by go_num, all_snoc HT.out HTk.out, HA10.out, HB10.out, fun q hq e => HAB10.out q hq e, hd10, hg10⟩, by simp [intOf]; omega⟩
          · have HDr := Lib.hid hdr
            clear hdr
            go_wp2
            refine ⟨⟨k - 1, ts ++ [t], by simp; omega, by go_num, all_snoc HT.out HTk.out, HA8.out, ?_, fun q hq e => HAB7.out q hq e, hd8, hg8⟩, by simp [intOf]; omega⟩
            rw [keep_snoc, keep1_drop HDr.out, List.append_nil]
            exact HB8.out
      · have hlen : ts.length ≤ 6 := by omega
        have hTs := IsTexts.of_own HA.out
        have hKs := IsTexts.of_own HBb.out
        have hkl := keep_le r ts
        have hJ := rJoin_any wr.heap.size _ ts wr hTs (by omega) (fun x hx => by have := low_size (HT.out x hx); omega)
        have hJK := fun W (hb : Below wr.heap.size wr W) => rJoin_any wr.heap.size _ (keepB r ts) W (hKs.keep hb) (by omega) (fun x hx => by have := low_size (keep_low HDl.out ts HT.out x hx); omega)
        replace hJ : Calls Tryd.prog 29 #[_] wr fun e w' => e = .returned (.string (joinB ts)) ∧ wr = w' := hJ
        have hjz := join_low ts HT.out hlen
        have HN := Lib.hid (norm_join HDl.out ts HT.out hlen)
        have HEr := Lib.hid (HE.out.below br HE.out.size)
        have hNm := Normalise_any p _ r (joinB ts) wr HEr.out HRr.out (by omega) (by unfold maxLen; omega)
        rw [HN.out] at hNm
        have hJK2 : ∀ W, Below wr.heap.size wr W → Calls Tryd.prog 29 #[_] W fun e w' => e = .returned (.string (joinB (keepB r ts))) ∧ W = w' := hJK
        obtain ⟨ka, kc, rfl, -, -, -⟩ := hKs
        obtain ⟨ja, jc, rfl, -, -, -⟩ := hTs
        have HJ := Lib.hid hJ
        have HJK := Lib.hid hJK2
        clear hJ hJK hJK2
        generalize joinB (keepB r ts) = J at *
        unfold normRet at hNm
        have HNm := Lib.hid hNm
        clear hNm
        have hjn : ¬ (64 : Int) < ((joinB ts).size : Int) := by omega
        go_wp2_with fail
        refine HJ.out.mono ?_
        rintro e w6 ⟨rfl, rfl⟩
        generalize joinB ts = S at *
        obtain ⟨c0, c1, c2⟩ := HBr.out
        go_wp2_with fail
        refine HNm.out.mono ?_
        rintro e w7 ⟨rfl, b7⟩
        clear c0 c1 c2
        go_wp2_with fail
        refine (HJK.out w7 b7).mono ?_
        rintro e w8 ⟨rfl, rfl⟩
        go_wp2
        go_ret
        exact ⟨rfl, br.trans (b7.mono br.size)⟩
  · have hd : decide (n ≤ 400) = false := by simp; omega
    rw [hd]
    clear hd
    go_wp2_with fail
    refine (awake2_any w1 hE1.out).mono ?_
    rintro e w2 ⟨rfl, b2⟩
    go_wp2
    go_ret
    exact ⟨rfl, b1.trans (b2.mono b1.size)⟩
end Go.Proofs.YtfdlmneahanboaaDoor
