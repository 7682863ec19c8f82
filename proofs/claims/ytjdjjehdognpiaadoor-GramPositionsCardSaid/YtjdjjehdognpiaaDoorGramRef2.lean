/- Walks of the reference's Grams, Positional, Common, Rounded, Dice. -/
import Derived.Test.YtjdjjehdognpiaaDoorGramRef
namespace Go.Proofs.YtjdjjehdognpiaaDoor
open Go.RowKit
set_option linter.unusedVariables false
set_option maxRecDepth 100000

theorem owns_read {base : Nat} {w : World} {v : Value} {L : List (List UInt8)} (h : OwnsL base w v L) : ∃ a c, v = .slice a L.length c ∧ L.length ≤ c ∧ c ≤ maxLen ∧
    (L = [] ∨ ∃ g, a = some ⟨g, 0, none⟩ ∧ base ≤ g ∧ g < w.heap.size ∧ ∀ j, ∀ hj : j < L.length, w.cell? ⟨g, j, none⟩ = some (.string (bs L[j]))) := by
  by_cases h0 : L = []
  · subst h0
    obtain ⟨a, c, hv, h1, h2, -⟩ := h.texts
    exact ⟨a, c, hv, Nat.zero_le _, h2, .inl rfl⟩
  · have hl : 0 < L.length := List.length_pos_iff.2 h0
    rcases h.2 with ⟨-, h1⟩ | ⟨g, cap, cur, hv, hbg, hg, hnc, hcm, hcs, htake⟩
    · omega
    · obtain ⟨g', cap', hv', h1, h2, h3, h4, h5⟩ := owns_form h (.inr h0) h0
      exact ⟨_, _, hv', h1, h2, .inr ⟨g', rfl, h3, h4, h5⟩⟩

set_option maxHeartbeats 2000000 in
theorem rGrams_any (s : ByteArray) (w : World) (hs : s.size ≤ 1048576) :
    Calls Tryd.prog 16 #[.string s] w fun e w' => ∃ v, e = .returned v ∧ OwnsL w.heap.size w' v (GM.gramsL s.data.toList) ∧ Below w.heap.size w w' := by
  by_cases h64 : 64 < s.size
  · have HG := Lib.hid (show GM.gramsL s.data.toList = [] by unfold GM.gramsL; rw [if_pos (by simpa using h64)])
    go_enter Tryd.func16, Tryd.ntmps16
    go_wp2
    go_ret
    rw [HG.out]
    exact ⟨_, rfl, owns_nil _ _, Below.refl _ _⟩
  · obtain ⟨i0, hi0, hz0, hz1, hz2⟩ := info_parts strInfo
    have HG := Lib.hid (show GM.gramsL s.data.toList = GM.setL (GM.gramsRaw (TM.words [] s.data.toList)) by unfold GM.gramsL; rw [if_neg (by simpa using h64)])
    have hn : (TM.words [] s.data.toList).length ≤ s.size + 1 := by have := (words_len s.data.toList []).1; simpa using this
    have hraw : (GM.gramsRaw (TM.words [] s.data.toList)).length ≤ s.size + 1 := by have := GM.raw_le s.data.toList; simpa using this
    have HM := Lib.hid (show ∀ t ∈ TM.words [] s.data.toList, t.length ≤ s.size by
      intro t ht
      have h1 := words_mem_len s.data.toList [] t ht
      simpa using h1)
    go_enter Tryd.func16, Tryd.ntmps16
    go_wp2_with fail
    refine (rTokens_any s w hs).mono ?_
    rintro e w1 ⟨v1, rfl, ⟨xs, hx, hxs⟩, b1⟩
    have HXS := Lib.hid hxs
    have hxl : xs.length ≤ s.size + 1 := by rw [← hxs, List.length_map] at hn; exact hn
    rw [← hxs] at HG HM hraw
    clear hxs hn
    obtain ⟨a, c, rfl, h1, h2, h3⟩ := hx
    have HX := Lib.hid h3
    clear h3
    unfold maxLen at h2
    go_wp2
    go_loopw [3, 5] (fun v i wr => ∃ (k : Nat) (L : List (List UInt8)), k ≤ xs.length ∧ i = .int .i64 k ∧ L = GM.gramsRaw ((xs.map (·.data.toList)).take k) ∧ OwnsL w1.heap.size wr v L ∧ Below w1.heap.size w1 wr) (fun _ i _ => xs.length - (intOf i).toNat)
    case atStart => exact ⟨0, [], by omega, rfl, rfl, owns_nil _ _, Below.refl _ _⟩
    case round =>
      obtain ⟨k, L, hk, rfl, hLe, hown, hbw⟩ := hrel
      have hLl : L.length ≤ s.size + 1 := by rw [hLe]; exact Nat.le_trans (GM.raw_take_le _ k) hraw
      have HW := Lib.hid hown
      have HLE := Lib.hid hLe
      clear hown hLe
      have hsz := hbw.size
      by_cases hlt : k < xs.length
      · obtain ⟨b, o, rfl, hbB, hc⟩ := HX.out.resolve_left (by intro e; rw [e] at hlt; exact absurd hlt (Nat.not_lt_zero _))
        have hcell := (hbw.cell (p := ⟨b, o + k, none⟩) (by show b < w1.heap.size; omega)).trans (hc k _ (List.getElem?_eq_getElem hlt))
        clear hc
        have HT := Lib.hid (GM.raw_take (xs.map (·.data.toList)) k (by simpa using hlt))
        have hxz : xs[k].size ≤ s.size := by have := HM.out xs[k].data.toList (List.mem_map.2 ⟨_, List.getElem_mem hlt, rfl⟩); simpa using this
        have hxk : (xs.map (·.data.toList))[k]'(by simpa using hlt) = xs[k].data.toList := by simp
        rw [hxk] at HT
        clear hxk
        have t0 : decide ((k : Int) < (xs.length : Int)) = true := by simp; omega
        generalize xs[k] = t at *
        rw [← bigr_under] at HT
        have hTz := under_size t
        obtain ⟨T, hT⟩ : ∃ T : ByteArray, ⟨#[95]⟩ ++ t ++ ⟨#[95]⟩ = T := ⟨_, rfl⟩
        rw [hT] at HT hTz
        have hTb : T.size ≤ 70 := by omega
        clear hTz
        obtain ⟨W0, hW0⟩ : ∃ W, W = wr := ⟨_, rfl⟩
        rw [← hW0] at hbw HW hsz hcell ⊢
        clear hW0
        go_wp2
        go_loopw [3, 7] (fun v i wr => ∃ (k : Nat) (M : List (List UInt8)), k ≤ T.size ∧ i = .int .i64 k ∧ M.length ≤ k ∧ M = (GM.bigr T.data.toList).take k ∧ OwnsL w1.heap.size wr v (L ++ M) ∧ Below w1.heap.size w1 wr) (fun _ i _ => T.size - (intOf i).toNat)
        case atStart => exact ⟨0, [], by omega, rfl, Nat.le_refl _, rfl, by rw [List.append_nil]; exact HW.out, hbw⟩
        case round =>
          obtain ⟨m, M, hm, rfl, hMl, hMe, hown2, hbr⟩ := hrel
          have HW2 := Lib.hid hown2
          have HME := Lib.hid hMe
          clear hown2 hMe
          have hszr := hbr.size
          by_cases hlt2 : m + 1 < T.size
          · have HTT := Lib.hid (GM.bigr_take T.data.toList m (by simpa using hlt2))
            have hLM : (L ++ M).length ≤ 200 := by rw [List.length_append]; omega
            have HLA := Lib.hid (List.append_assoc L M [(T.extract m (m + 2)).data.toList])
            generalize L ++ M = N at *
            go_wp2_with (at_builtin; refine wpList_append_own _ rfl _ _ 23 rfl w1.heap.size 9 i0 (.string ⟨#[]⟩) 1 16 Tryd.underlying23 hi0 hz0 hz1 hz2 rfl (by decide) _ _ _ rfl (World.ownsRow.alloc HW2.out _) ⟨wr.heap.size, 0, none⟩ 1 1 [.string (T.extract m (m + 2))] rfl rfl ?c1 ?c2 ?c3 ?c4 ?c5 ?_)
            case c1 =>
              intro j u hj
              match j, hj with
              | 0, hj => simp at hj; subst hj; simp [Addr.add]
            case c2 => intro u hu; simp at hu; subst hu; rfl
            case c3 => unfold maxLen; omega
            case c4 => omega
            case c5 => simp; omega
            intro v' w2 hown' hgrow _
            have HO := Lib.hid (owns_snoc hown')
            clear hown'
            go_wp2
            refine ⟨⟨m + 1, M ++ [(T.extract m (m + 2)).data.toList], by omega, by go_num, by simp; omega, ?_, ?_, ?_⟩, by simp [intOf]; omega⟩
            · rw [HTT.out, ← extract_two, HME.out]
            · rw [← HLA.out]; exact HO.out
            · exact (hbr.alloc (by omega) _).grown hgrow (by simp; omega) (fun g hg => (World.ownsRow.lt HW2.out g hg).1)
          · have HA := Lib.hid (GM.bigr_all T.data.toList m (by simp; omega))
            go_wp2
            refine ⟨⟨k + 1, L ++ M, by omega, by go_num, ?_, HW2.out, hbr⟩, by simp [intOf]; omega⟩
            rw [HT.out, HLE.out, HME.out, HA.out]
      · obtain rfl : k = xs.length := by omega
        have hL : L = GM.gramsRaw (xs.map (·.data.toList)) := by rw [HLE.out, List.take_of_length_le (by simp)]
        have HL := Lib.hid hL
        have HT := Lib.hid (OwnsL.texts HW.out)
        clear hL
        go_wp2_with fail
        refine (rSet_any _ _ (L.map bs) wr HT.out (Nat.le_refl _) (by rw [List.length_map]; omega)).mono ?_
        rintro e w2 ⟨u, rfl, hu, b2⟩
        rw [map_bs, HL.out, ← HG.out] at hu
        have HU := Lib.hid hu
        clear hu
        go_wp2
        go_ret
        exact ⟨_, rfl, ownsRow_base_a HU.out (Nat.le_trans b1.size hsz), b1.trans ((hbw.trans (b2.mono hsz)).mono b1.size)⟩

set_option maxHeartbeats 1000000 in
theorem rPositional_any (s : ByteArray) (w : World) (hs : s.size ≤ 1048576) :
    Calls Tryd.prog 18 #[.string s] w fun e w' => ∃ v, e = .returned v ∧ OwnsL w.heap.size w' v (GM.posL s.data.toList) ∧ Below w.heap.size w w' := by
  by_cases h26 : 26 < s.size
  · have HG := Lib.hid (show GM.posL s.data.toList = [] by unfold GM.posL; rw [if_pos (by simpa using h26)])
    go_enter Tryd.func18, Tryd.ntmps18
    go_wp2
    go_ret
    rw [HG.out]
    exact ⟨_, rfl, owns_nil _ _, Below.refl _ _⟩
  · have HG := Lib.hid (show GM.posL s.data.toList = GM.posAt 0 s.data.toList by unfold GM.posL; rw [if_neg (by simpa using h26)])
    have HSP := Lib.hid (GM.setL_pos s.data.toList)
    obtain ⟨i0, hi0, hz0, hz1, hz2⟩ := info_parts strInfo
    go_enter Tryd.func18, Tryd.ntmps18
    go_wp2
    go_loopw [3, 4] (fun v i wr => ∃ (k : Nat) (L : List (List UInt8)), k ≤ s.size ∧ i = .int .i64 k ∧ L.length ≤ k ∧ L = (GM.posAt 0 s.data.toList).take k ∧ OwnsL w.heap.size wr v L ∧ Below w.heap.size w wr) (fun _ i _ => s.size - (intOf i).toNat)
    case atStart => exact ⟨0, [], by omega, rfl, Nat.le_refl _, rfl, owns_nil _ _, Below.refl _ _⟩
    case round =>
      obtain ⟨k, L, hk, rfl, hLk, hLe, hown, hbw⟩ := hrel
      have HW := Lib.hid hown
      have HLE := Lib.hid hLe
      clear hown hLe
      have hsz := hbw.size
      by_cases hlt : k < s.size
      · have HT := Lib.hid (GM.posAt_take s.data.toList k (by simpa using hlt))
        have k1 : ∀ W : World, _ := fun W => conv2 W (UInt8.ofNat (97 + k)) s[k] (97 + (k : Int)) s[k].toNat (by rw [← place_byte k (by omega)]; push_cast; rfl) rfl
        have HPB := Lib.hid (pos_two_bytes k s[k])
        generalize (⟨#[UInt8.ofNat (97 + k), s[k]]⟩ : ByteArray) = T at k1 HPB
        go_wp2_with (at_builtin; refine wpList_append_own _ rfl _ _ 23 rfl w.heap.size 9 i0 (.string ⟨#[]⟩) 1 16 Tryd.underlying23 hi0 hz0 hz1 hz2 rfl (by decide) _ _ _ rfl (World.ownsRow.alloc (World.ownsRow.alloc HW.out _) _) ⟨wr.heap.size + 1, 0, none⟩ 1 1 [.string T] rfl rfl ?c1 ?c2 ?c3 ?c4 ?c5 ?_)
        case c1 =>
          intro j u hj
          match j, hj with
          | 0, hj => simp at hj; subst hj; simp [Addr.add]
        case c2 => intro u hu; simp at hu; subst hu; rfl
        case c3 => unfold maxLen; omega
        case c4 => omega
        case c5 => simp; omega
        intro v' w2 hown' hgrow _
        have HO := Lib.hid (owns_snoc hown')
        clear hown'
        go_wp2
        refine ⟨⟨k + 1, L ++ [T.data.toList], by omega, by go_num, by simp; omega, ?_, HO.out, ?_⟩, by simp [intOf]; omega⟩
        · rw [HT.out, HPB.out, HLE.out]
          rfl
        · exact ((hbw.alloc (by omega) _).alloc (by simp; omega) _).grown hgrow (by simp; omega) (fun g hg => (World.ownsRow.lt HW.out g hg).1)
      · have HA := Lib.hid (show L = GM.posL s.data.toList by rw [HLE.out, HG.out, List.take_of_length_le (by rw [GM.posAt_length]; simp; omega)])
        have HT := Lib.hid (OwnsL.texts HW.out)
        have hLl : L.length ≤ 26 := by omega
        go_wp2_with fail
        refine (rSet_any _ _ (L.map bs) wr HT.out (Nat.le_refl _) (by rw [List.length_map]; omega)).mono ?_
        rintro e w2 ⟨u, rfl, hu, b2⟩
        rw [map_bs, HA.out, HSP.out] at hu
        have HU := Lib.hid hu
        clear hu
        go_wp2
        go_ret
        exact ⟨_, rfl, ownsRow_base_a HU.out hsz, hbw.trans (b2.mono hsz)⟩

/-- How often a text stands at the places that have been seen: once or not. -/
def inN (z : List UInt8) (l : List (List UInt8)) : Nat := if z ∈ l then 1 else 0
theorem cnt_take (X Y : List (List UInt8)) (i : Nat) (h : i < X.length) : GM.cnt (X.take (i + 1)) Y = GM.cnt (X.take i) Y + inN X[i] Y := by
  rw [List.take_succ_eq_append_getElem h, cnt_snoc]
  unfold inN
  by_cases hm : X[i] ∈ Y <;> simp [hm]
theorem mem_take_succ (Y : List (List UInt8)) (k : Nat) (h : k < Y.length) (z : List UInt8) : z ∈ Y.take (k + 1) ↔ z ∈ Y.take k ∨ z = Y[k] := by
  rw [List.take_succ_eq_append_getElem h, List.mem_append, List.mem_singleton]
theorem not_seen {Y : List (List UInt8)} (hY : Y.Nodup) {k : Nat} (h : k < Y.length) : Y[k] ∉ Y.take k := by
  intro hm
  have e : Y.take k ++ Y.drop k = Y := List.take_append_drop k Y
  rw [← e] at hY
  have h2 := (List.nodup_append.1 hY).2.2 _ hm Y[k] (by rw [List.drop_eq_getElem_cons h]; exact List.mem_cons_self ..)
  exact h2 rfl
theorem inN_hit {Y : List (List UInt8)} (hY : Y.Nodup) {z : List UInt8} {k : Nat} (h : k < Y.length) (e : z = Y[k]) : inN z (Y.take (k + 1)) = inN z (Y.take k) + 1 := by
  have hn : z ∉ Y.take k := by rw [e]; exact not_seen hY h
  have hp : z ∈ Y.take (k + 1) := (mem_take_succ Y k h z).2 (.inr e)
  unfold inN
  rw [if_neg hn, if_pos hp]
theorem inN_miss {Y : List (List UInt8)} {z : List UInt8} {k : Nat} (h : k < Y.length) (e : ¬ z = Y[k]) : inN z (Y.take (k + 1)) = inN z (Y.take k) := by
  have hiff : z ∈ Y.take (k + 1) ↔ z ∈ Y.take k := (mem_take_succ Y k h z).trans ⟨fun h => h.resolve_right e, .inl⟩
  unfold inN
  by_cases hm : z ∈ Y.take k
  · rw [if_pos hm, if_pos (hiff.2 hm)]
  · rw [if_neg hm, if_neg (fun h => hm (hiff.1 h))]
theorem beq_two (x y : List UInt8) : ((bs x).toList == (bs y).toList) = decide (x = y) := beq_bs x (bs y)

set_option maxHeartbeats 2000000 in
theorem rCommon_any (B B' : Nat) (v u : Value) (xs ys : List ByteArray) (w : World) (h : IsTexts B w v xs) (h' : IsTexts B' w u ys) (hB : B ≤ w.heap.size) (hB' : B' ≤ w.heap.size) (hl : xs.length ≤ 900) (hl' : ys.length ≤ 900) :
    Calls Tryd.prog 21 #[v, u] w fun e w' => e = .returned (.int .i64 (GM.commonN (xs.map (·.data.toList)) (ys.map (·.data.toList)))) ∧ Below w.heap.size w w' := by
  have HS := Lib.hid (rSet_any B v xs w h hB hl)
  have HT' := Lib.hid h'
  have hx1 := GM.length_setL (xs.map (·.data.toList))
  have hy1 := GM.length_setL (ys.map (·.data.toList))
  rw [List.length_map] at hx1 hy1
  have HND := Lib.hid (GM.nodup_setL (ys.map (·.data.toList)))
  clear h h'
  have HCM := Lib.hid (show GM.commonN (xs.map (·.data.toList)) (ys.map (·.data.toList)) = GM.cnt (GM.setL (xs.map (·.data.toList))) (GM.setL (ys.map (·.data.toList))) from rfl)
  go_enter Tryd.func21, Tryd.ntmps21
  go_wp2_with fail
  refine HS.out.mono ?_
  rintro e w1 ⟨v1, rfl, o1, b1⟩
  have HO1 := Lib.hid o1
  clear o1
  go_wp2_with fail
  refine (rSet_any B' u ys w1 (HT'.out.keep (b1.mono hB')) (Nat.le_trans hB' b1.size) hl').mono ?_
  rintro e w2 ⟨v2, rfl, o2, b2⟩
  have hx2 := owns_below HO1.out b2 b1.size
  have hBW : Below w.heap.size w w2 := b1.trans (b2.mono b1.size)
  have hw1 := b1.size
  have hw2 := b2.size
  generalize GM.setL (xs.map (·.data.toList)) = X at *
  generalize GM.setL (ys.map (·.data.toList)) = Y at *
  obtain ⟨a, c, rfl, ha1, ha2, ha3⟩ := owns_read hx2
  obtain ⟨a', c', rfl, hb1, hb2, hb3⟩ := owns_read o2
  have HA := Lib.hid ha3
  have HB := Lib.hid hb3
  clear ha3 hb3 hx2 o2 HO1 HS HT'
  unfold maxLen at ha2 hb2
  go_wp2
  go_loopw [7, 8] (fun c i wr => ∃ n : Nat, n ≤ X.length ∧ i = .int .i64 n ∧ c = .int .i64 (GM.cnt (X.take n) Y) ∧ (∀ p : Addr, wr.cell? p = w2.cell? p) ∧ Below w.heap.size w wr) (fun _ i _ => X.length - (intOf i).toNat)
  case atStart => exact ⟨0, Nat.zero_le _, rfl, rfl, fun _ => rfl, hBW⟩
  case round =>
    obtain ⟨n, hn, rfl, rfl, hcl, hbr⟩ := hrel
    have HCL := Lib.hid hcl
    have HBR := Lib.hid hbr
    clear hcl
    have hc900 : GM.cnt (X.take n) Y ≤ n := Nat.le_trans (GM.cnt_le _ _) (List.length_take_le _ _)
    by_cases hlt : n < X.length
    · obtain ⟨g, rfl, hg1, hg2, hg3⟩ := HA.out.resolve_left (by intro e; rw [e] at hlt; exact absurd hlt (Nat.not_lt_zero _))
      have hcx := (HCL.out ⟨g, n, none⟩).trans (hg3 n hlt)
      have HCT := Lib.hid (cnt_take X Y n hlt)
      have t0 : decide ((n : Int) < (X.length : Int)) = true := by simp; omega
      clear hg3
      generalize X[n] = x at *
      generalize GM.cnt (X.take n) Y = m at *
      obtain ⟨W0, hW0⟩ : ∃ W, W = wr := ⟨_, rfl⟩
      rw [← hW0] at hbr hcx HCL HBR ⊢
      clear hW0
      go_wp2
      go_loopw [7, 9] (fun c i wr => ∃ k : Nat, k ≤ Y.length ∧ i = .int .i64 k ∧ c = .int .i64 (m + inN x (Y.take k) : Nat) ∧ (∀ p : Addr, wr.cell? p = W0.cell? p) ∧ Below w.heap.size w wr) (fun _ i _ => Y.length - (intOf i).toNat)
      case atStart => exact ⟨0, Nat.zero_le _, rfl, rfl, fun _ => rfl, hbr⟩
      case round =>
        obtain ⟨k, hk, rfl, rfl, hcl2, hbr2⟩ := hrel
        have hi1 : inN x (Y.take k) ≤ 1 := by unfold inN; split <;> omega
        have HCL2 := Lib.hid hcl2
        have HBR2 := Lib.hid hbr2
        by_cases hlt2 : k < Y.length
        · obtain ⟨g', rfl, hg1', hg2', hg3'⟩ := HB.out.resolve_left (by intro e; rw [e] at hlt2; exact absurd hlt2 (Nat.not_lt_zero _))
          have hcy := (hcl2 ⟨g', k, none⟩).trans ((HCL.out _).trans (hg3' k hlt2))
          have hcx2 := (hcl2 ⟨g, n, none⟩).trans hcx
          obtain ⟨y, hy⟩ : ∃ y, y = Y[k] := ⟨_, rfl⟩
          rw [← hy] at hcy
          have HY := Lib.hid hy
          have HEQ := Lib.hid (beq_two x y)
          obtain ⟨q, hq⟩ : ∃ q, q = m + inN x (Y.take k) := ⟨_, rfl⟩
          have HQ := Lib.hid hq
          have hq900 : q ≤ 100000 := by omega
          rw [← hq]
          clear hcl2 hg3' hy hq hi1 hcx
          go_wp2
          go_quiet (fail)
          go_wp2
          · have hb := ‹((bs x).toList == (bs y).toList) = true›
            rw [HEQ.out, decide_eq_true_eq] at hb
            have e := inN_hit HND.out hlt2 (hb.trans HY.out)
            refine ⟨⟨k + 1, by omega, by go_num, ?_, fun p => (show (wr.drewN nq).cell? p = wr.cell? p from rfl).trans (HCL2.out p), below_drewN HBR2.out _⟩, by simp [intOf]; omega⟩
            rw [e, ← Nat.add_assoc, ← HQ.out]
            rfl
          · have hb := ‹((bs x).toList == (bs y).toList) = false›
            rw [HEQ.out, decide_eq_false_iff_not] at hb
            have e := inN_miss hlt2 (fun e => hb (e.trans HY.out.symm))
            refine ⟨⟨k + 1, by omega, by go_num, ?_, fun p => (show (wr.drewN nq).cell? p = wr.cell? p from rfl).trans (HCL2.out p), below_drewN HBR2.out _⟩, by simp [intOf]; omega⟩
            rw [e, ← HQ.out]
        · have hkY : Y.take k = Y := List.take_of_length_le (by omega)
          rw [hkY]
          clear hcl2 hbr2
          go_wp2
          refine ⟨⟨n + 1, by omega, by go_num, by rw [HCT.out], fun p => (HCL2.out p).trans (HCL.out p), HBR2.out⟩, by simp [intOf]; omega⟩
    · have hkX : X.take n = X := List.take_of_length_le (by omega)
      rw [hkX, ← HCM.out]
      go_wp2
      go_ret
      exact ⟨rfl, hbr⟩

theorem rRounded_any (n d : Nat) (w : World) (hn : n ≤ 1000000000000) (hd : 1 ≤ d) (hd' : d ≤ 1000000000000) :
    Calls Tryd.prog 39 #[.int .i64 n, .int .i64 d] w fun e w' => e = .returned (.int .i64 ((2 * n + d) / (2 * d) : Nat)) ∧ w = w' := by
  go_enter Tryd.func39, Tryd.ntmps39
  go_wp2
  go_ret
  exact ⟨congrArg (fun x : Int => Ending.returned (.int .i64 x)) (round_cast n d), rfl⟩
theorem rRounded_at (n d : Int) (N D : Nat) (e1 : n = N) (e2 : d = D) (w : World) (hn : N ≤ 1000000000000) (hd : 1 ≤ D) (hd' : D ≤ 1000000000000) :
    Calls Tryd.prog 39 #[.int .i64 n, .int .i64 d] w fun e w' => e = .returned (.int .i64 ((2 * N + D) / (2 * D) : Nat)) ∧ w = w' := by
  subst e1 e2
  exact rRounded_any N D w hn hd hd'

set_option maxHeartbeats 2000000 in
theorem rDice_any (B B' : Nat) (v u : Value) (xs ys : List ByteArray) (w : World) (h : IsTexts B w v xs) (h' : IsTexts B' w u ys) (hB : B ≤ w.heap.size) (hB' : B' ≤ w.heap.size) (hl : xs.length ≤ 900) (hl' : ys.length ≤ 900) :
    Calls Tryd.prog 23 #[v, u] w fun e w' => e = .returned (.int .i64 (GM.diceN (xs.map (·.data.toList)) (ys.map (·.data.toList)))) ∧ Below w.heap.size w w' := by
  have HS := Lib.hid (rSet_any B v xs w h hB hl)
  have HT := Lib.hid h
  have HT' := Lib.hid h'
  have hx1 := GM.length_setL (xs.map (·.data.toList))
  have hy1 := GM.length_setL (ys.map (·.data.toList))
  have hc := GM.common_le (xs.map (·.data.toList)) (ys.map (·.data.toList))
  rw [List.length_map] at hx1 hy1
  have HD1 := Lib.hid (dice_of (a := xs.map (·.data.toList)) (b := ys.map (·.data.toList)))
  have HD2 := Lib.hid (dice_none (a := xs.map (·.data.toList)) (b := ys.map (·.data.toList)))
  obtain ⟨m, hm⟩ : ∃ m, m = GM.commonN (xs.map (·.data.toList)) (ys.map (·.data.toList)) := ⟨_, rfl⟩
  have HCM := Lib.hid (fun (W : World) (hW : Below w.heap.size w W) => rCommon_any B B' v u xs ys W (h.keep (hW.mono hB)) (h'.keep (hW.mono hB')) (Nat.le_trans hB hW.size) (Nat.le_trans hB' hW.size) hl hl')
  rw [← hm] at hc HD1 HCM
  clear h h' hm
  go_enter Tryd.func23, Tryd.ntmps23
  go_wp2_with fail
  refine HS.out.mono ?_
  rintro e w1 ⟨v1, rfl, o1, b1⟩
  obtain ⟨a, c, rfl, ha1, ha2, -⟩ := owns_read o1
  unfold maxLen at ha2
  clear o1
  go_wp2_with fail
  refine (rSet_any B' u ys w1 (HT'.out.keep (b1.mono hB')) (Nat.le_trans hB' b1.size) hl').mono ?_
  rintro e w2 ⟨v2, rfl, o2, b2⟩
  obtain ⟨a', c', rfl, hb1, hb2, -⟩ := owns_read o2
  unfold maxLen at hb2
  clear o2 HS HT HT'
  have hBW : Below w.heap.size w w2 := b1.trans (b2.mono b1.size)
  generalize (GM.setL (xs.map (·.data.toList))).length = x at *
  generalize (GM.setL (ys.map (·.data.toList))).length = y at *
  by_cases h0 : x + y = 0
  · obtain rfl : x = 0 := by omega
    obtain rfl : y = 0 := by omega
    go_wp2
    go_ret
    exact ⟨congrArg (fun n : Nat => Ending.returned (.int .i64 n)) (HD2.out (by first | rfl | trivial)).symm, hBW⟩
  · have hb : ¬ ((x : Int) + (y : Int) = 0) := by omega
    have hbb : ((x : Int) + (y : Int) == 0) = false := by simp; omega
    go_wp2_with fail
    refine (HCM.out w2 hBW).mono ?_
    rintro e w3 ⟨rfl, b3⟩
    go_wp2_with fail
    refine (rRounded_at _ _ (2000 * m) (x + y) (by push_cast; rfl) (by push_cast; rfl) w3 (by omega) (by omega) (by omega)).mono ?_
    rintro e w4 ⟨rfl, rfl⟩
    go_wp2
    go_ret
    exact ⟨congrArg (fun n : Nat => Ending.returned (.int .i64 n)) (HD1.out h0).symm, hBW.trans (b3.mono hBW.size)⟩
end Go.Proofs.YtjdjjehdognpiaaDoor
