/- The walk of NameChecks. -/
import Derived.Test.YtfdlmneahanboaaDoorNameLaws3
import Derived.BigRegion
import Derived.Deep.Cut
namespace Go.Proofs.YtfdlmneahanboaaDoor
open Go.RowKit
set_option linter.unusedVariables false

theorem low_tok {t : ByteArray} (h : lowB t = true) : tokB t = true := by
  have hl := lowB_lows h
  unfold tokB
  rw [hl.1.2, decide_eq_true (by omega), Lib.toList_data]
  have := hl.1.1
  simpa using this
theorem low_tokx {t : ByteArray} (h : lowB t = true) : tokB (t ++ ⟨#[120]⟩) = true := by
  have hl := lowB_lows h
  unfold tokB
  rw [data_add, List.all_append, hl.1.2, decide_eq_true (by rw [size_add]; show _ + 1 ≤ _; omega), Lib.toList_data, data_add]
  have := hl.1.1
  simp
  decide
theorem less_irr (a : List UInt8) : Op.bytesLess a a = false := by
  have := bytes_total a a
  simp at this
  exact this
theorem froms_one (a b : ByteArray) : froms [(a, b)] = [a] := rfl
theorem areTok_one {a : ByteArray} (h : tokB a = true) : areTokB [a] = true := by
  rw [areTok_split]
  simp only [List.all_cons, List.all_nil, h, Bool.and_true, Bool.true_and]
  exact asc_yes _ (fun j hj => by
    have : j = 0 := by simpa using hj
    subst this; rfl)
theorem areTok_nil : areTokB [] = true := by rfl
theorem arePairs_nil : arePairsB [] = true := by rfl
theorem arePairs_one {a b : ByteArray} (ha : tokB a = true) (hb : tokB b = true) (hn : (a.toList == b.toList) = false) : arePairsB [(a, b)] = true := by
  unfold arePairsB
  rw [froms_one, areTok_one ha]
  simp only [List.all_cons, List.all_nil, Bool.and_true, Bool.true_and, toAt, froms_one, hb, hasB, List.any_cons, List.any_nil, hn]
  rfl
theorem checks_chain {a b : ByteArray} {ps : List (ByteArray × ByteArray)} (h : ps = [(a, b), (b, a)] ∨ ps = [(b, a), (a, b)]) : checkV ⟨[], ps, []⟩ = 5 := by
  have hp : arePairsB ps = false := by
    rcases h with rfl | rfl
    · refine arePairs_not _ 0 (by simp) ?_
      show (tokB b && !hasB [a, b] b) = false
      rw [(hasB_iff _ _).2 (by simp)]; simp
    · refine arePairs_not _ 0 (by simp) ?_
      show (tokB a && !hasB [b, a] a) = false
      rw [(hasB_iff _ _).2 (by simp)]; simp
  refine check_bad _ ?_ ?_
  · rcases h with rfl | rfl <;> rfl
  · unfold rightB
    rw [hp]; simp
theorem checks_title {a b : ByteArray} : checkV ⟨[b], [(a, b)], []⟩ = 5 := by
  refine check_bad _ rfl ?_
  unfold rightB
  have : makesB ⟨[b], [(a, b)], []⟩ = true := by
    show ([(a, b)].any fun p => hasB [b] p.2) = true
    simp only [List.any_cons, List.any_nil, Bool.or_false]
    exact (hasB_iff _ _).2 (by simp)
  rw [this]; simp
theorem checks_twice {a b : ByteArray} : checkV ⟨[], [], [(a, b), (a, b)]⟩ = 5 := by
  refine check_bad _ rfl ?_
  unfold rightB
  have : arePairsB [(a, b), (a, b)] = false := by
    unfold arePairsB
    have : areTokB (froms [(a, b), (a, b)]) = false := by
      refine areTok_not _ 1 (by simp [froms]) ?_
      rw [orderAt_is _ 1 (by omega) (by simp [froms])]
      show (_ && !geS a a) = false
      unfold geS
      rw [less_irr]; simp
    rw [this]; rfl
  rw [this]; simp
theorem checks_fine {a b : ByteArray} (ha : tokB a = true) (hb : tokB b = true) (hn : (a.toList == b.toList) = false) : checkV ⟨[a], [(a, b)], [(a, b)]⟩ = 0 := by
  refine check_ok _ rfl ?_
  unfold rightB
  have : makesB ⟨[a], [(a, b)], [(a, b)]⟩ = false := by
    show ([(a, b)].any fun p => hasB [a] p.2) = false
    simp only [List.any_cons, List.any_nil, Bool.or_false, hasB, hn]
  rw [this]
  show (areTokB [a] && (arePairsB [(a, b)] && (arePairsB [(a, b)] && !false))) = true
  rw [areTok_one ha, arePairs_one ha hb hn]; rfl

theorem below_drew {B : Nat} {a w : World} (h : Below B a w) : Below B a w.drew := ⟨h.os, h.tape, h.output, h.size, h.block⟩
theorem pairs_nil (B : Nat) (w : World) : IsPairs B w (.slice none 0 0) [] := ⟨none, 0, rfl, Nat.le_refl _, Nat.zero_le _, .inl rfl⟩
theorem texts_nil (B : Nat) (w : World) : IsTexts B w (.slice none 0 0) [] := ⟨none, 0, rfl, Nat.le_refl _, Nat.zero_le _, .inl rfl⟩
/-- Rules of two nicknames, written out; of a title and a nickname; of two streets; of one of each. -/
theorem lit_nicks (V : World) (a b c d : ByteArray) : Below V.heap.size V ((V.alloc (.cells #[.string a, .string b, .string c, .string d] 49)).alloc (.cells #[.slice none 0 0, .slice (some ⟨V.heap.size, 0, none⟩) 2 2, .slice none 0 0] 26)) ∧
    Box ((V.alloc (.cells #[.string a, .string b, .string c, .string d] 49)).alloc (.cells #[.slice none 0 0, .slice (some ⟨V.heap.size, 0, none⟩) 2 2, .slice none 0 0] 26)) (V.heap.size + 1) (.slice none 0 0) (.slice (some ⟨V.heap.size, 0, none⟩) 2 2) (.slice none 0 0) ∧
    IsRules (V.heap.size + 2) ((V.alloc (.cells #[.string a, .string b, .string c, .string d] 49)).alloc (.cells #[.slice none 0 0, .slice (some ⟨V.heap.size, 0, none⟩) 2 2, .slice none 0 0] 26)) (.agg #[.slice none 0 0, .slice (some ⟨V.heap.size, 0, none⟩) 2 2, .slice none 0 0]) ⟨[], [(a, b), (c, d)], []⟩ ∧
    ((V.alloc (.cells #[.string a, .string b, .string c, .string d] 49)).alloc (.cells #[.slice none 0 0, .slice (some ⟨V.heap.size, 0, none⟩) 2 2, .slice none 0 0] 26)).heap.size = V.heap.size + 2 := by
  refine ⟨((Below.refl _ _).alloc (Nat.le_refl _) _).alloc (by simp) _, ?_, ⟨_, _, _, rfl, texts_nil _ _, ?_, pairs_nil _ _⟩, by simp⟩
  · have := Box.new (V.alloc (.cells #[.string a, .string b, .string c, .string d] 49)) (.slice none 0 0) (.slice (some ⟨V.heap.size, 0, none⟩) 2 2) (.slice none 0 0)
    simpa using this
  · exact ((pairs_lit V [(a, b), (c, d)] (by simp [maxLen])).keep ((Below.refl _ _).alloc (by simp) _)).more (by omega)
theorem lit_streets (V : World) (a b c d : ByteArray) : Below V.heap.size V ((V.alloc (.cells #[.string a, .string b, .string c, .string d] 49)).alloc (.cells #[.slice none 0 0, .slice none 0 0, .slice (some ⟨V.heap.size, 0, none⟩) 2 2] 26)) ∧
    Box ((V.alloc (.cells #[.string a, .string b, .string c, .string d] 49)).alloc (.cells #[.slice none 0 0, .slice none 0 0, .slice (some ⟨V.heap.size, 0, none⟩) 2 2] 26)) (V.heap.size + 1) (.slice none 0 0) (.slice none 0 0) (.slice (some ⟨V.heap.size, 0, none⟩) 2 2) ∧
    IsRules (V.heap.size + 2) ((V.alloc (.cells #[.string a, .string b, .string c, .string d] 49)).alloc (.cells #[.slice none 0 0, .slice none 0 0, .slice (some ⟨V.heap.size, 0, none⟩) 2 2] 26)) (.agg #[.slice none 0 0, .slice none 0 0, .slice (some ⟨V.heap.size, 0, none⟩) 2 2]) ⟨[], [], [(a, b), (c, d)]⟩ ∧
    ((V.alloc (.cells #[.string a, .string b, .string c, .string d] 49)).alloc (.cells #[.slice none 0 0, .slice none 0 0, .slice (some ⟨V.heap.size, 0, none⟩) 2 2] 26)).heap.size = V.heap.size + 2 := by
  refine ⟨((Below.refl _ _).alloc (Nat.le_refl _) _).alloc (by simp) _, ?_, ⟨_, _, _, rfl, texts_nil _ _, pairs_nil _ _, ?_⟩, by simp⟩
  · have := Box.new (V.alloc (.cells #[.string a, .string b, .string c, .string d] 49)) (.slice none 0 0) (.slice none 0 0) (.slice (some ⟨V.heap.size, 0, none⟩) 2 2)
    simpa using this
  · exact ((pairs_lit V [(a, b), (c, d)] (by simp [maxLen])).keep ((Below.refl _ _).alloc (by simp) _)).more (by omega)
theorem lit_title (V : World) (t a b : ByteArray) : Below V.heap.size V (((V.alloc (.cells #[.string t] 9)).alloc (.cells #[.string a, .string b] 49)).alloc (.cells #[.slice (some ⟨V.heap.size, 0, none⟩) 1 1, .slice (some ⟨V.heap.size + 1, 0, none⟩) 1 1, .slice none 0 0] 26)) ∧
    Box (((V.alloc (.cells #[.string t] 9)).alloc (.cells #[.string a, .string b] 49)).alloc (.cells #[.slice (some ⟨V.heap.size, 0, none⟩) 1 1, .slice (some ⟨V.heap.size + 1, 0, none⟩) 1 1, .slice none 0 0] 26)) (V.heap.size + 1 + 1) (.slice (some ⟨V.heap.size, 0, none⟩) 1 1) (.slice (some ⟨V.heap.size + 1, 0, none⟩) 1 1) (.slice none 0 0) ∧
    IsRules (V.heap.size + 3) (((V.alloc (.cells #[.string t] 9)).alloc (.cells #[.string a, .string b] 49)).alloc (.cells #[.slice (some ⟨V.heap.size, 0, none⟩) 1 1, .slice (some ⟨V.heap.size + 1, 0, none⟩) 1 1, .slice none 0 0] 26)) (.agg #[.slice (some ⟨V.heap.size, 0, none⟩) 1 1, .slice (some ⟨V.heap.size + 1, 0, none⟩) 1 1, .slice none 0 0]) ⟨[t], [(a, b)], []⟩ ∧
    (((V.alloc (.cells #[.string t] 9)).alloc (.cells #[.string a, .string b] 49)).alloc (.cells #[.slice (some ⟨V.heap.size, 0, none⟩) 1 1, .slice (some ⟨V.heap.size + 1, 0, none⟩) 1 1, .slice none 0 0] 26)).heap.size = V.heap.size + 3 := by
  refine ⟨(((Below.refl _ _).alloc (Nat.le_refl _) _).alloc (by simp) _).alloc (by simp; omega) _, ?_, ⟨_, _, _, rfl, ?_, ?_, pairs_nil _ _⟩, by simp⟩
  · have := Box.new ((V.alloc (.cells #[.string t] 9)).alloc (.cells #[.string a, .string b] 49)) (.slice (some ⟨V.heap.size, 0, none⟩) 1 1) (.slice (some ⟨V.heap.size + 1, 0, none⟩) 1 1) (.slice none 0 0)
    simpa using this
  · exact ((texts_lit V [t] (by simp [maxLen])).keep (((Below.refl _ _).alloc (by simp) _).alloc (by simp) _)).more (by omega)
  · have := (pairs_lit (V.alloc (.cells #[.string t] 9)) [(a, b)] (by simp [maxLen])).keep ((Below.refl _ _).alloc (by simp) (.cells #[.slice (some ⟨V.heap.size, 0, none⟩) 1 1, .slice (some ⟨V.heap.size + 1, 0, none⟩) 1 1, .slice none 0 0] 26))
    simp only [World.size_alloc] at this
    exact this.more (by omega)
theorem lit_fine (V : World) (t a b c d : ByteArray) : Below V.heap.size V ((((V.alloc (.cells #[.string t] 9)).alloc (.cells #[.string a, .string b] 49)).alloc (.cells #[.string c, .string d] 49)).alloc (.cells #[.slice (some ⟨V.heap.size, 0, none⟩) 1 1, .slice (some ⟨V.heap.size + 1, 0, none⟩) 1 1, .slice (some ⟨V.heap.size + 1 + 1, 0, none⟩) 1 1] 26)) ∧
    Box ((((V.alloc (.cells #[.string t] 9)).alloc (.cells #[.string a, .string b] 49)).alloc (.cells #[.string c, .string d] 49)).alloc (.cells #[.slice (some ⟨V.heap.size, 0, none⟩) 1 1, .slice (some ⟨V.heap.size + 1, 0, none⟩) 1 1, .slice (some ⟨V.heap.size + 1 + 1, 0, none⟩) 1 1] 26)) (V.heap.size + 1 + 1 + 1) (.slice (some ⟨V.heap.size, 0, none⟩) 1 1) (.slice (some ⟨V.heap.size + 1, 0, none⟩) 1 1) (.slice (some ⟨V.heap.size + 1 + 1, 0, none⟩) 1 1) ∧
    IsRules (V.heap.size + 4) ((((V.alloc (.cells #[.string t] 9)).alloc (.cells #[.string a, .string b] 49)).alloc (.cells #[.string c, .string d] 49)).alloc (.cells #[.slice (some ⟨V.heap.size, 0, none⟩) 1 1, .slice (some ⟨V.heap.size + 1, 0, none⟩) 1 1, .slice (some ⟨V.heap.size + 1 + 1, 0, none⟩) 1 1] 26)) (.agg #[.slice (some ⟨V.heap.size, 0, none⟩) 1 1, .slice (some ⟨V.heap.size + 1, 0, none⟩) 1 1, .slice (some ⟨V.heap.size + 1 + 1, 0, none⟩) 1 1]) ⟨[t], [(a, b)], [(c, d)]⟩ ∧
    ((((V.alloc (.cells #[.string t] 9)).alloc (.cells #[.string a, .string b] 49)).alloc (.cells #[.string c, .string d] 49)).alloc (.cells #[.slice (some ⟨V.heap.size, 0, none⟩) 1 1, .slice (some ⟨V.heap.size + 1, 0, none⟩) 1 1, .slice (some ⟨V.heap.size + 1 + 1, 0, none⟩) 1 1] 26)).heap.size = V.heap.size + 4 := by
  refine ⟨((((Below.refl _ _).alloc (Nat.le_refl _) _).alloc (by simp) _).alloc (by simp; omega) _).alloc (by simp; omega) _, ?_, ⟨_, _, _, rfl, ?_, ?_, ?_⟩, by simp⟩
  · have := Box.new (((V.alloc (.cells #[.string t] 9)).alloc (.cells #[.string a, .string b] 49)).alloc (.cells #[.string c, .string d] 49)) (.slice (some ⟨V.heap.size, 0, none⟩) 1 1) (.slice (some ⟨V.heap.size + 1, 0, none⟩) 1 1) (.slice (some ⟨V.heap.size + 1 + 1, 0, none⟩) 1 1)
    simpa using this
  · exact ((texts_lit V [t] (by simp [maxLen])).keep ((((Below.refl _ _).alloc (by simp) _).alloc (by simp) _).alloc (by simp) _)).more (by omega)
  · have := (pairs_lit (V.alloc (.cells #[.string t] 9)) [(a, b)] (by simp [maxLen])).keep (((Below.refl _ _).alloc (by simp) (.cells #[.string c, .string d] 49)).alloc (by simp) (.cells #[.slice (some ⟨V.heap.size, 0, none⟩) 1 1, .slice (some ⟨V.heap.size + 1, 0, none⟩) 1 1, .slice (some ⟨V.heap.size + 1 + 1, 0, none⟩) 1 1] 26))
    simp only [World.size_alloc] at this
    exact this.more (by omega)
  · have := (pairs_lit ((V.alloc (.cells #[.string t] 9)).alloc (.cells #[.string a, .string b] 49)) [(c, d)] (by simp [maxLen])).keep ((Below.refl _ _).alloc (by simp) (.cells #[.slice (some ⟨V.heap.size, 0, none⟩) 1 1, .slice (some ⟨V.heap.size + 1, 0, none⟩) 1 1, .slice (some ⟨V.heap.size + 1 + 1, 0, none⟩) 1 1] 26))
    simp only [World.size_alloc] at this
    exact this.more (by omega)

set_option maxRecDepth 100000 in
set_option maxHeartbeats 8000000 in
theorem NameChecks_walk (A : Option Addr) (n c : Nat) (w : World) (hE : Env w) (hI : IntsArg w A n c) :
    Calls Tryd.prog 8 #[.slice A n c] w fun e w' => e = .returned (.bool true) ∧ Below w.heap.size w w' := by
  have HE := Lib.hid hE
  have HI := Lib.hid hI
  clear hE hI
  go_enter Tryd.func8, Tryd.ntmps8
  go_wp2_with fail
  refine (awake2_any w HE.out).mono ?_
  rintro e w1 ⟨rfl, b1⟩
  go_wp2_with fail
  refine (Few_any A n c w1 (Nat.le_trans HI.out.1 HI.out.2.1)).mono ?_
  rintro e w1' ⟨rfl, rfl⟩
  have hE1 := Lib.hid (HE.out.below b1 HE.out.size)
  by_cases hn : n ≤ 400
  · have hd : decide (n ≤ 400) = true := by simp [hn]
    rw [hd]
    clear hd
    go_wp2_with fail
    refine (New_any A n c w1 (HI.out.below b1)).mono ?_
    rintro e w2 ⟨rfl, hd2, b2⟩
    generalize hg : w1.heap.size = g at *
    have HG := Lib.hid hg
    clear hg
    have hgw : w.heap.size ≤ g := by rw [← HG.out]; exact b1.size
    go_wp2_with fail
    refine (Token_any g w2 hd2).mono ?_
    rintro e w3 ⟨a, rfl, ha, hd3, g3⟩
    go_wp2_with fail
    refine (Token_any g w3 hd3).mono ?_
    rintro e w4 ⟨tb, rfl, htb, hd4, g4⟩
    have b4 : Below w.heap.size w w4 := (b1.trans (b2.mono hgw)).trans (below_of_grown (grown_trans g3 g4) hgw (Nat.le_trans hgw (Nat.le_of_lt hd2.lt)))
    have hza := low_size ha
    have hzb := low_size htb
    have HTA := Lib.hid (low_tok ha)
    have HTB := Lib.hid (low_tokx htb)
    clear ha htb
    by_cases hab : (a.toList == (tb ++ ⟨#[120]⟩ : ByteArray).toList) = true
    · go_wp2
      go_ret
      exact ⟨rfl, b4⟩
    · have hab' : (a.toList == (tb ++ ⟨#[120]⟩ : ByteArray).toList) = false := by simpa using hab
      have HAB := Lib.hid hab'
      clear hab
      generalize htx : (tb ++ ⟨#[120]⟩ : ByteArray) = tx at *
      cases hless : Op.bytesLess tx.toList a.toList
      case' false =>
        go_upto_region 10 with (fail)
        clear htx
        obtain ⟨bV, hbx, hrl, hVs⟩ := lit_nicks w4 a tx tx a
        have HCh := Lib.hid (checks_chain (a := a) (b := tx) (.inl rfl))
        generalize ((w4.alloc (.cells #[.string a, .string tx, .string tx, .string a] 49)).alloc (.cells #[.slice none 0 0, .slice (some ⟨w4.heap.size, 0, none⟩) 2 2, .slice none 0 0] 26)) = V at *
      case' true =>
        go_upto_region 9 with (fail)
        clear htx
        go_region
        obtain ⟨bV, hbx, hrl, hVs⟩ := lit_nicks w4 tx a a tx
        replace bV := below_drew bV
        have HCh := Lib.hid (checks_chain (a := a) (b := tx) (.inr rfl))
        replace hbx : Box ((w4.alloc (.cells #[.string tx, .string a, .string a, .string tx] 49)).alloc (.cells #[.slice none 0 0, .slice (some ⟨w4.heap.size, 0, none⟩) 2 2, .slice none 0 0] 26)).drew (w4.heap.size + 1) (.slice none 0 0) (.slice (some ⟨w4.heap.size, 0, none⟩) 2 2) (.slice none 0 0) := hbx
        replace hrl := hrl.keep (below_drew (Below.refl _ _))
        replace hVs : ((w4.alloc (.cells #[.string tx, .string a, .string a, .string tx] 49)).alloc (.cells #[.slice none 0 0, .slice (some ⟨w4.heap.size, 0, none⟩) 2 2, .slice none 0 0] 26)).drew.heap.size = w4.heap.size + 2 := hVs
        generalize ((w4.alloc (.cells #[.string tx, .string a, .string a, .string tx] 49)).alloc (.cells #[.slice none 0 0, .slice (some ⟨w4.heap.size, 0, none⟩) 2 2, .slice none 0 0] 26)).drew = V at *
        go_upto_region 10 with (fail)
      all_goals
        have HB1 := Lib.hid hbx
        have HR1 := Lib.hid (hrl.more (B' := V.heap.size) (by omega))
        have hp1 : w4.heap.size + 1 < V.heap.size := by omega
        have bv : Below w.heap.size w V := b4.trans (bV.mono b4.size)
        clear hbx hrl hVs
        go_upto_region 11 with (fail)
        obtain ⟨bX, hbx, hrl, hXs⟩ := lit_title V tx a tx
        have HB1x := Lib.hid (HB1.out.below bX hp1)
        have HR1x := Lib.hid ((HR1.out.keep bX).more bX.size)
        have hq1 : w4.heap.size + 1 < (((V.alloc (.cells #[.string tx] 9)).alloc (.cells #[.string a, .string tx] 49)).alloc (.cells #[.slice (some ⟨V.heap.size, 0, none⟩) 1 1, .slice (some ⟨V.heap.size + 1, 0, none⟩) 1 1, .slice none 0 0] 26)).heap.size := by omega
        have hp2 : V.heap.size + 1 + 1 < (((V.alloc (.cells #[.string tx] 9)).alloc (.cells #[.string a, .string tx] 49)).alloc (.cells #[.slice (some ⟨V.heap.size, 0, none⟩) 1 1, .slice (some ⟨V.heap.size + 1, 0, none⟩) 1 1, .slice none 0 0] 26)).heap.size := by omega
        have HR2 := Lib.hid (hrl.more (Nat.le_of_eq hXs.symm))
        have HB2 := Lib.hid hbx
        have bx := bv.trans (bX.mono bv.size)
        clear hbx hrl hXs bX HB1 HR1
        generalize (((V.alloc (.cells #[.string tx] 9)).alloc (.cells #[.string a, .string tx] 49)).alloc (.cells #[.slice (some ⟨V.heap.size, 0, none⟩) 1 1, .slice (some ⟨V.heap.size + 1, 0, none⟩) 1 1, .slice none 0 0] 26)) = X at *
        go_upto_region 12 with (fail)
        obtain ⟨bY, hbx, hrl, hYs⟩ := lit_streets X a tx a tx
        have HB1y := Lib.hid (HB1x.out.below bY hq1)
        have HR1y := Lib.hid ((HR1x.out.keep bY).more bY.size)
        have HB2y := Lib.hid (HB2.out.below bY hp2)
        have HR2y := Lib.hid ((HR2.out.keep bY).more bY.size)
        have hr1 : w4.heap.size + 1 < ((X.alloc (.cells #[.string a, .string tx, .string a, .string tx] 49)).alloc (.cells #[.slice none 0 0, .slice none 0 0, .slice (some ⟨X.heap.size, 0, none⟩) 2 2] 26)).heap.size := by omega
        have hr2 : V.heap.size + 1 + 1 < ((X.alloc (.cells #[.string a, .string tx, .string a, .string tx] 49)).alloc (.cells #[.slice none 0 0, .slice none 0 0, .slice (some ⟨X.heap.size, 0, none⟩) 2 2] 26)).heap.size := by omega
        have hp3 : X.heap.size + 1 < ((X.alloc (.cells #[.string a, .string tx, .string a, .string tx] 49)).alloc (.cells #[.slice none 0 0, .slice none 0 0, .slice (some ⟨X.heap.size, 0, none⟩) 2 2] 26)).heap.size := by omega
        have HR3 := Lib.hid (hrl.more (Nat.le_of_eq hYs.symm))
        have HB3 := Lib.hid hbx
        have by_ := bx.trans (bY.mono bx.size)
        clear hbx hrl hYs bY HB1x HR1x HB2 HR2
        generalize ((X.alloc (.cells #[.string a, .string tx, .string a, .string tx] 49)).alloc (.cells #[.slice none 0 0, .slice none 0 0, .slice (some ⟨X.heap.size, 0, none⟩) 2 2] 26)) = Y at *
        go_upto_region 13 with (fail)
        obtain ⟨bU, hbx, hrl, hUs⟩ := lit_fine Y a a tx a tx
        have HB1u := Lib.hid (HB1y.out.below bU hr1)
        have HR1u := Lib.hid ((HR1y.out.keep bU).more bU.size)
        have HB2u := Lib.hid (HB2y.out.below bU hr2)
        have HR2u := Lib.hid ((HR2y.out.keep bU).more bU.size)
        have HB3u := Lib.hid (HB3.out.below bU hp3)
        have HR3u := Lib.hid ((HR3.out.keep bU).more bU.size)
        have hs1 : w4.heap.size + 1 < ((((Y.alloc (.cells #[.string a] 9)).alloc (.cells #[.string a, .string tx] 49)).alloc (.cells #[.string a, .string tx] 49)).alloc (.cells #[.slice (some ⟨Y.heap.size, 0, none⟩) 1 1, .slice (some ⟨Y.heap.size + 1, 0, none⟩) 1 1, .slice (some ⟨Y.heap.size + 1 + 1, 0, none⟩) 1 1] 26)).heap.size := by omega
        have hs2 : V.heap.size + 1 + 1 < ((((Y.alloc (.cells #[.string a] 9)).alloc (.cells #[.string a, .string tx] 49)).alloc (.cells #[.string a, .string tx] 49)).alloc (.cells #[.slice (some ⟨Y.heap.size, 0, none⟩) 1 1, .slice (some ⟨Y.heap.size + 1, 0, none⟩) 1 1, .slice (some ⟨Y.heap.size + 1 + 1, 0, none⟩) 1 1] 26)).heap.size := by omega
        have hs3 : X.heap.size + 1 < ((((Y.alloc (.cells #[.string a] 9)).alloc (.cells #[.string a, .string tx] 49)).alloc (.cells #[.string a, .string tx] 49)).alloc (.cells #[.slice (some ⟨Y.heap.size, 0, none⟩) 1 1, .slice (some ⟨Y.heap.size + 1, 0, none⟩) 1 1, .slice (some ⟨Y.heap.size + 1 + 1, 0, none⟩) 1 1] 26)).heap.size := by omega
        have hs4 : Y.heap.size + 1 + 1 + 1 < ((((Y.alloc (.cells #[.string a] 9)).alloc (.cells #[.string a, .string tx] 49)).alloc (.cells #[.string a, .string tx] 49)).alloc (.cells #[.slice (some ⟨Y.heap.size, 0, none⟩) 1 1, .slice (some ⟨Y.heap.size + 1, 0, none⟩) 1 1, .slice (some ⟨Y.heap.size + 1 + 1, 0, none⟩) 1 1] 26)).heap.size := by omega
        have HR4 := Lib.hid (hrl.more (Nat.le_of_eq hUs.symm))
        have HB4 := Lib.hid hbx
        have bu := by_.trans (bU.mono by_.size)
        clear hbx hrl hUs bU HB1y HR1y HB2y HR2y HB3 HR3
        generalize ((((Y.alloc (.cells #[.string a] 9)).alloc (.cells #[.string a, .string tx] 49)).alloc (.cells #[.string a, .string tx] 49)).alloc (.cells #[.slice (some ⟨Y.heap.size, 0, none⟩) 1 1, .slice (some ⟨Y.heap.size + 1, 0, none⟩) 1 1, .slice (some ⟨Y.heap.size + 1 + 1, 0, none⟩) 1 1] 26)) = U at *
        have hC1 := Check_any U.heap.size _ _ U HR1u.out (Nat.le_refl _)
        rw [HCh.out] at hC1
        have HC1 := Lib.hid hC1
        clear hC1
        obtain ⟨c0, c1, c2⟩ := HB1u.out
        go_wp2_with fail
        refine HC1.out.mono ?_
        rintro e u1 ⟨rfl, d1⟩
        have hC2 := Check_any U.heap.size _ _ u1 (HR2u.out.keep d1) d1.size
        rw [checks_title] at hC2
        have HC2 := Lib.hid hC2
        clear hC2 c0 c1 c2
        obtain ⟨c0, c1, c2⟩ := HB2u.out.below d1 hs2
        go_wp2_with fail
        refine HC2.out.mono ?_
        rintro e u2 ⟨rfl, d2⟩
        have d2' := d1.trans (d2.mono d1.size)
        have hC3 := Check_any U.heap.size _ _ u2 (HR3u.out.keep d2') d2'.size
        rw [checks_twice] at hC3
        have HC3 := Lib.hid hC3
        clear hC3 c0 c1 c2
        obtain ⟨c0, c1, c2⟩ := HB3u.out.below d2' hs3
        go_wp2_with fail
        refine HC3.out.mono ?_
        rintro e u3 ⟨rfl, d3⟩
        have d3' := d2'.trans (d3.mono d2'.size)
        have hC4 := Check_any U.heap.size _ _ u3 (HR4.out.keep d3') d3'.size
        rw [checks_fine HTA.out HTB.out HAB.out] at hC4
        have HC4 := Lib.hid hC4
        clear hC4 c0 c1 c2
        obtain ⟨c0, c1, c2⟩ := HB4.out.below d3' hs4
        go_wp2_with fail
        refine HC4.out.mono ?_
        rintro e u4 ⟨rfl, d4⟩
        have d4' := d3'.trans (d4.mono d3'.size)
        clear c0 c1 c2
        go_wp2
        go_ret
        exact ⟨rfl, bu.trans (d4'.mono bu.size)⟩
  · have hd : decide (n ≤ 400) = false := by simp; omega
    rw [hd]
    clear hd
    go_wp2_with fail
    refine (awake2_any w1 hE1.out).mono ?_
    rintro e w2 ⟨rfl, b2⟩
    go_wp2
    go_ret
    exact ⟨rfl, b1.trans (b2.mono b1.size)⟩
end Go.Proofs.YtfdlmneahanboaaDoor
