/- Walks of layer 2's checks of replacements. -/
import Derived.Test.YthplnfblpdojkaaGreatDoorNameRules
namespace Go.Proofs.YthplnfblpdojkaaGreatDoor
open Go.RowKit
set_option linter.unusedVariables false
set_option maxRecDepth 100000

theorem owns_below {base n k : Nat} {T : TypeId} {w w' : World} {v : Value} {cs : List Value} (h : w.ownsRow base T k v n cs) (hb : Below w.heap.size w w') : w'.ownsRow base T k v n cs := by
  refine ⟨h.1, ?_⟩
  rcases h.2 with h2 | ⟨g, cap, cur, hv, hbg, hg, hrest⟩
  · exact .inl h2
  · exact .inr ⟨g, cap, cur, hv, hbg, (hb.block g (Array.getElem?_eq_some_iff.1 hg).1).trans hg, hrest⟩
theorem froms_take (ps : List (ByteArray × ByteArray)) (k : Nat) (h : k < ps.length) : froms (ps.take (k + 1)) = froms (ps.take k) ++ [ps[k].1] := by
  unfold froms
  rw [List.take_succ_eq_append_getElem h, List.map_append]; rfl
theorem froms_len (ps : List (ByteArray × ByteArray)) : (froms ps).length = ps.length := by simp [froms]
theorem arePairs_not (ps : List (ByteArray × ByteArray)) (k : Nat) (h : k < ps.length) (hf : toAt ps ps[k] = false) : arePairsB ps = false := by
  unfold arePairsB
  rw [Bool.and_eq_false_iff]
  right
  rw [List.all_eq_false]
  exact ⟨ps[k], List.getElem_mem h, by rw [hf]; simp⟩
theorem arePairs_yes (ps : List (ByteArray × ByteArray)) (h : ∀ j, ∀ hj : j < ps.length, toAt ps ps[j] = true) : arePairsB ps = areTokB (froms ps) := by
  unfold arePairsB
  have : ps.all (toAt ps) = true := by
    rw [List.all_eq_true]
    intro x hx
    obtain ⟨k, hk, rfl⟩ := List.mem_iff_getElem.1 hx
    exact h k hk
  rw [this, Bool.and_true]

set_option maxRecDepth 100000 in
set_option maxHeartbeats 2000000 in
theorem arePairs_any (B : Nat) (v : Value) (ps : List (ByteArray × ByteArray)) (w : World) (h : IsPairs B w v ps) (hB : B ≤ w.heap.size) (hl : ps.length ≤ 1000) :
    Calls Tryz.prog 53 #[v] w fun e w' => e = .returned (.bool (arePairsB ps)) ∧ Below w.heap.size w w' := by
  obtain ⟨i0, hi0, hz0, hz1, hz2⟩ := info_parts strInfo
  by_cases hne : ps = []
  · subst hne
    obtain ⟨a, c, rfl⟩ := h.nil_
    clear h
    go_enter Tryz.func53, Tryz.ntmps53
    go_wp2
    go_loop [3, 10] (fun v i => v = .slice none 0 0 ∧ i = .int .i64 0) (fun _ _ => 0)
    case atStart => exact ⟨rfl, rfl⟩
    case round =>
      obtain ⟨rfl, rfl⟩ := hrel
      go_wp2
      go_loop [22] (fun i => i = .int .i64 0) (fun _ => 0)
      case atStart => rfl
      case round =>
        obtain rfl := hrel
        go_wp2_with fail
        refine (areTokens_any 0 _ [] w ⟨none, 0, rfl, Nat.le_refl _, Nat.zero_le _, .inl rfl⟩ (Nat.zero_le _)).mono ?_
        rintro e w1 ⟨rfl, b1⟩
        go_wp2
        go_ret
        exact ⟨ret_bool (by rfl), b1⟩
  · obtain ⟨b, o, c, rfl, h1, h2, hlt, hc⟩ := h.at_ hne
    have hb0 : b < w.heap.size := by omega
    have HC := Lib.hid hc
    clear hc h
    unfold maxLen at h2
    go_enter Tryz.func53, Tryz.ntmps53
    go_wp2
    go_loopw [3, 10] (fun v i wr => ∃ (k : Nat), k ≤ ps.length ∧ i = .int .i64 k ∧ wr.ownsRow w.heap.size 9 1 v (froms (ps.take k)).length ((froms (ps.take k)).map Value.string) ∧ Below w.heap.size w wr) (fun _ i _ => ps.length - (intOf i).toNat)
    case atStart => exact ⟨0, by omega, rfl, World.ownsRow_nil _ _ _ _, Below.refl _ _⟩
    case round =>
      obtain ⟨k, hk, rfl, hown, hbw⟩ := hrel
      by_cases hlt : k < ps.length
      · obtain ⟨hc, hc'⟩ := HC.out k hlt
        have hc := (hbw.cell (p := ⟨b, o + k * 2, none⟩) hb0).trans hc
        have hc' := (hbw.cell (p := ⟨b, o + k * 2 + 1, none⟩) hb0).trans hc'
        have hsz := hbw.size
        have HF := Lib.hid (froms_take ps k hlt)
        have hfl : (froms (ps.take k)).length ≤ k := by rw [froms_len]; exact List.length_take_le _ _
        have HW := Lib.hid hown
        clear hown
        go_wp2_with (at_builtin; refine wpList_append_own _ rfl _ _ 23 rfl w.heap.size 9 i0 (.string ⟨#[]⟩) 1 16 Tryz.underlying23 hi0 hz0 hz1 hz2 rfl (by decide) _ _ _ rfl ((HW.out.alloc _).alloc _) ⟨wr.heap.size + 1, 0, none⟩ 1 1 [.string ps[k].1] rfl rfl ?c1 ?c2 ?c3 ?c4 ?c5 ?_)
        case c1 =>
          intro j u hj
          match j, hj with
          | 0, hj => simp at hj; subst hj; simp [Addr.add]
        case c2 => intro u hu; simp at hu; subst hu; rfl
        case c3 => unfold maxLen; omega
        case c4 => first | omega | (simp; omega)
        case c5 => first | omega | (simp; omega)
        · intro v' w2 hown' hgrow _
          go_wp2
          refine ⟨⟨k + 1, by omega, by go_num, ?_, ?_⟩, by simp [intOf]; omega⟩
          · rw [HF.out]
            simpa using hown'
          · exact ((hbw.alloc (by omega) _).alloc (by simp; omega) _).grown hgrow (by simp; omega) (fun g hg => (HW.out.lt g hg).1)
      · have hge : ps.length ≤ k := by omega
        rw [List.take_of_length_le hge] at hown
        have hF := IsTexts.of_own hown
        have HFT := Lib.hid hF
        obtain ⟨fa, fc, rfl, _⟩ := hF
        clear hown
        have hsz := hbw.size
        obtain ⟨W1, hW1⟩ : ∃ W, W = wr := ⟨_, rfl⟩
        subst hW1
        go_wp2
        go_loopw [22] (fun i wr2 => ∃ (k : Nat), k ≤ ps.length ∧ i = .int .i64 k ∧ (∀ j, ∀ hj : j < ps.length, j < k → toAt ps ps[j] = true) ∧ Below W1.heap.size W1 wr2) (fun i _ => ps.length - (intOf i).toNat)
        case atStart => exact ⟨0, by omega, rfl, fun j _ hj => absurd hj (Nat.not_lt_zero _), Below.refl _ _⟩
        case round =>
          obtain ⟨k, hk, rfl, hacc, hbw2⟩ := hrel
          have hbw3 := hbw.trans (hbw2.mono hsz)
          have HA := Lib.hid hacc
          clear hacc
          by_cases hlt : k < ps.length
          · obtain ⟨hc, hc'⟩ := HC.out k hlt
            have hc := (hbw3.cell (p := ⟨b, o + k * 2, none⟩) hb0).trans hc
            have hc' := (hbw3.cell (p := ⟨b, o + k * 2 + 1, none⟩) hb0).trans hc'
            have hsz2 := hbw2.size
            have HT := Lib.hid (show toAt ps ps[k] = (tokB ps[k].2 && !hasB (froms ps) ps[k].2) from rfl)
            have hN := Lib.hid (arePairs_not ps k hlt)
            go_wp2_with fail
            refine (isToken_any _ _).mono ?_
            rintro e w1 ⟨rfl, b1⟩
            have b1' : Below w.heap.size w w1 := hbw3.trans (((Below.refl _ _).alloc (Nat.le_refl _) _).trans (b1.mono (by simp)) |>.mono hbw3.size)
            have b1W : Below W1.heap.size W1 w1 := hbw2.trans (((Below.refl _ _).alloc (Nat.le_refl _) _).trans (b1.mono (by simp)) |>.mono hbw2.size)
            have hp2 : w1.cell? ⟨wr.heap.size, 1, none⟩ = some (.string ps[k].2) := (b1.cell (p := ⟨wr.heap.size, 1, none⟩) (by simp)).trans (by simp)
            go_wp2_with (go_at_call 72; refine (Contains_any W1.heap.size _ (froms ps) _ _ (HFT.out.keep b1W)).mono ?_; rintro e w2 ⟨rfl, rfl⟩)
            · go_ret
              refine ⟨ret_bool (hN.out ?_).symm, b1'⟩
              rw [HT.out, ‹hasB (froms ps) ps[k].2 = true›]; simp
            · refine ⟨⟨k + 1, by omega, by go_num, fun j hj hjk => ?_, b1W⟩, by simp [intOf]; omega⟩
              by_cases hj' : j < k
              · exact HA.out j hj hj'
              · obtain rfl : j = k := by omega
                rw [HT.out, ‹tokB ps[j].2 = true›, ‹hasB (froms ps) ps[j].2 = false›]; rfl
            · go_ret
              refine ⟨ret_bool (hN.out ?_).symm, b1'⟩
              rw [HT.out, (show tokB ps[k].2 = false by simpa using ‹¬ tokB ps[k].2 = true›)]; rfl
          · have hE := Lib.hid (arePairs_yes ps (fun j hj => HA.out j hj (by omega)))
            go_wp2_with fail
            refine (areTokens_any W1.heap.size _ (froms ps) wr (HFT.out.keep hbw2) hbw2.size).mono ?_
            rintro e w1 ⟨rfl, b1⟩
            go_wp2
            go_ret
            exact ⟨ret_bool hE.out.symm, hbw3.trans (b1.mono hbw3.size)⟩

theorem arePairs_from (ps : List (ByteArray × ByteArray)) (k : Nat) (h : k < ps.length) (hf : tokB ps[k].1 = false) : arePairsB ps = false := by
  unfold arePairsB
  rw [Bool.and_eq_false_iff]
  left
  rw [areTok_split, Bool.and_eq_false_iff]
  left
  rw [List.all_eq_false]
  exact ⟨ps[k].1, List.mem_map.2 ⟨ps[k], List.getElem_mem h, rfl⟩, by rw [hf]; simp⟩
theorem arePairs_all (ps : List (ByteArray × ByteArray)) (h1 : ∀ j, ∀ hj : j < ps.length, tokB ps[j].1 = true ∧ tokB ps[j].2 = true) (h2 : ∀ j, ∀ hj : j < ps.length, hasB (froms ps) ps[j].2 = false) : arePairsB ps = ascB (froms ps) := by
  rw [arePairs_yes ps (fun j hj => by unfold toAt; rw [(h1 j hj).2, h2 j hj]; rfl), areTok_split]
  have : (froms ps).all tokB = true := by
    rw [List.all_eq_true]
    intro x hx
    obtain ⟨p, hp, rfl⟩ := List.mem_map.1 hx
    obtain ⟨k, hk, rfl⟩ := List.mem_iff_getElem.1 hp
    exact (h1 k hk).1
  rw [this, Bool.true_and]

set_option maxRecDepth 100000 in
set_option maxHeartbeats 2000000 in
theorem rpairs_any (B : Nat) (v : Value) (ps : List (ByteArray × ByteArray)) (w : World) (h : IsPairs B w v ps) (hB : B ≤ w.heap.size) (hl : ps.length ≤ 1000) :
    Calls Tryz.prog 65 #[v] w fun e w' => e = .returned (.bool (arePairsB ps)) ∧ Below w.heap.size w w' := by
  obtain ⟨i0, hi0, hz0, hz1, hz2⟩ := info_parts strInfo
  by_cases hne : ps = []
  · subst hne
    obtain ⟨a, c, rfl⟩ := h.nil_
    clear h
    go_enter Tryz.func65, Tryz.ntmps65
    go_wp2
    go_loop [3, 4] (fun v i => v = .slice none 0 0 ∧ i = .int .i64 0) (fun _ _ => 0)
    case atStart => exact ⟨rfl, rfl⟩
    case round =>
      obtain ⟨rfl, rfl⟩ := hrel
      go_wp2
      go_loop [5] (fun i => i = .int .i64 0) (fun _ => 0)
      case atStart => rfl
      case round =>
        obtain rfl := hrel
        go_wp2_with fail
        refine (rascending_any 0 _ [] w ⟨none, 0, rfl, Nat.le_refl _, Nat.zero_le _, .inl rfl⟩).mono ?_
        rintro e w1 ⟨rfl, b1⟩
        go_wp2
        go_ret
        exact ⟨ret_bool (by rfl), b1⟩
  · obtain ⟨b, o, c, rfl, h1, h2, hlt, hc⟩ := h.at_ hne
    have hb0 : b < w.heap.size := by omega
    have HC := Lib.hid hc
    clear hc h
    unfold maxLen at h2
    go_enter Tryz.func65, Tryz.ntmps65
    go_wp2
    go_loopw [3, 4] (fun v i wr => ∃ (k : Nat), k ≤ ps.length ∧ i = .int .i64 k ∧ (∀ j, ∀ hj : j < ps.length, j < k → tokB ps[j].1 = true ∧ tokB ps[j].2 = true) ∧ wr.ownsRow w.heap.size 9 1 v (froms (ps.take k)).length ((froms (ps.take k)).map Value.string) ∧ Below w.heap.size w wr) (fun _ i _ => ps.length - (intOf i).toNat)
    case atStart => exact ⟨0, by omega, rfl, fun j _ hj => absurd hj (Nat.not_lt_zero _), World.ownsRow_nil _ _ _ _, Below.refl _ _⟩
    case round =>
      obtain ⟨k, hk, rfl, hacc, hown, hbw⟩ := hrel
      have HA := Lib.hid hacc
      clear hacc
      by_cases hlt : k < ps.length
      · obtain ⟨hc, hc'⟩ := HC.out k hlt
        have hc := (hbw.cell (p := ⟨b, o + k * 2, none⟩) hb0).trans hc
        have HC1 := Lib.hid ((hbw.cell (p := ⟨b, o + k * 2 + 1, none⟩) hb0).trans hc')
        clear hc'
        have hsz := hbw.size
        have hbr : b < wr.heap.size := by omega
        have HF := Lib.hid (froms_take ps k hlt)
        have HN1 := Lib.hid (arePairs_from ps k hlt)
        have HN2 := Lib.hid (arePairs_not ps k hlt)
        have hfl : (froms (ps.take k)).length ≤ k := by rw [froms_len]; exact List.length_take_le _ _
        have HW := Lib.hid hown
        clear hown
        go_wp2_with fail
        refine (rtoken_any _ _).mono ?_
        rintro e w1 ⟨rfl, b1⟩
        have b1' := hbw.trans (b1.mono hsz)
        have hc' := (b1.cell (p := ⟨b, o + k * 2 + 1, none⟩) hbr).trans HC1.out
        cases ht1 : tokB ps[k].1
        · have HT1 := Lib.hid ht1
          clear ht1
          go_wp2
          go_ret
          exact ⟨ret_bool (HN1.out HT1.out).symm, b1'⟩
        · have HT1 := Lib.hid ht1
          clear ht1
          go_wp2_with fail
          refine (rtoken_any _ _).mono ?_
          rintro e w2 ⟨rfl, b2⟩
          have b2r : Below wr.heap.size wr w2 := b1.trans (b2.mono b1.size)
          have b2' := hbw.trans (b2r.mono hsz)
          have hc2 := (b2r.cell (p := ⟨b, o + k * 2, none⟩) hbr).trans hc
          clear hc
          cases ht2 : tokB ps[k].2
          · have HT2 := Lib.hid ht2
            clear ht2
            go_wp2
            go_ret
            refine ⟨ret_bool (HN2.out ?_).symm, b2'⟩
            unfold toAt
            rw [HT2.out]; rfl
          · have HT2 := Lib.hid ht2
            clear ht2
            have hsz2 := b2r.size
            have HW2 := Lib.hid (owns_below HW.out b2r)
            go_wp2_with (at_builtin; refine wpList_append_own _ rfl _ _ 23 rfl w.heap.size 9 i0 (.string ⟨#[]⟩) 1 16 Tryz.underlying23 hi0 hz0 hz1 hz2 rfl (by decide) _ _ _ rfl (HW2.out.alloc _) ⟨w2.heap.size, 0, none⟩ 1 1 [.string ps[k].1] rfl rfl ?c1 ?c2 ?c3 ?c4 ?c5 ?_)
            case c1 =>
              intro j u hj
              match j, hj with
              | 0, hj => simp at hj; subst hj; simp [Addr.add]
            case c2 => intro u hu; simp at hu; subst hu; rfl
            case c3 => unfold maxLen; omega
            case c4 => omega
            case c5 => first | omega | (simp; omega)
            · intro v' w3 hown' hgrow _
              go_wp2
              refine ⟨⟨k + 1, by omega, by go_num, fun j hj hjk => ?_, ?_, ?_⟩, by simp [intOf]; omega⟩
              · by_cases hj' : j < k
                · exact HA.out j hj hj'
                · obtain rfl : j = k := by omega
                  exact ⟨HT1.out, HT2.out⟩
              · rw [HF.out]
                simpa using hown'
              · exact (b2'.alloc (by omega) _).grown hgrow (by simp; omega) (fun g hg => (HW2.out.lt g hg).1)
      · have hge : ps.length ≤ k := by omega
        rw [List.take_of_length_le hge] at hown
        have hF := IsTexts.of_own hown
        have HFT := Lib.hid hF
        obtain ⟨fa, fc, rfl, _⟩ := hF
        clear hown
        have hsz := hbw.size
        obtain ⟨W1, hW1⟩ : ∃ W, W = wr := ⟨_, rfl⟩
        subst hW1
        go_wp2
        go_loopw [5] (fun i wr2 => ∃ (k : Nat), k ≤ ps.length ∧ i = .int .i64 k ∧ (∀ j, ∀ hj : j < ps.length, j < k → hasB (froms ps) ps[j].2 = false) ∧ W1 = wr2) (fun i _ => ps.length - (intOf i).toNat)
        case atStart => exact ⟨0, by omega, rfl, fun j _ hj => absurd hj (Nat.not_lt_zero _), rfl⟩
        case round =>
          obtain ⟨k, hk, rfl, hacc, rfl⟩ := hrel
          have HA2 := Lib.hid hacc
          clear hacc
          by_cases hlt : k < ps.length
          · obtain ⟨hc, hc'⟩ := HC.out k hlt
            have hc' := (hbw.cell (p := ⟨b, o + k * 2 + 1, none⟩) hb0).trans hc'
            clear hc
            have HN2 := Lib.hid (arePairs_not ps k hlt)
            go_wp2_with fail
            refine (rhas_any W1.heap.size _ (froms ps) _ _ HFT.out).mono ?_
            rintro e w2 ⟨rfl, rfl⟩
            cases hq : hasB (froms ps) ps[k].2
            · have HQ := Lib.hid hq
              clear hq
              go_wp2
              refine ⟨⟨k + 1, by omega, by go_num, fun j hj hjk => ?_, by trivial⟩, by simp [intOf]; omega⟩
              by_cases hj' : j < k
              · exact HA2.out j hj hj'
              · obtain rfl : j = k := by omega
                exact HQ.out
            · have HQ := Lib.hid hq
              clear hq
              go_wp2
              go_ret
              refine ⟨ret_bool (HN2.out ?_).symm, hbw⟩
              unfold toAt
              rw [HQ.out]; simp
          · have hE := Lib.hid (arePairs_all ps (fun j hj => HA.out j hj (by omega)) (fun j hj => HA2.out j hj (by omega)))
            go_wp2_with fail
            refine (rascending_any W1.heap.size _ (froms ps) W1 HFT.out).mono ?_
            rintro e w1 ⟨rfl, b1⟩
            go_wp2
            go_ret
            exact ⟨ret_bool hE.out.symm, hbw.trans (b1.mono hsz)⟩
end Go.Proofs.YthplnfblpdojkaaGreatDoor
