/- The walks of GramPositions, GramDice, GramTokens. -/
import Derived.Test.YtjdjjehdognpiaaDoorGramLists
namespace Go.Proofs.YtjdjjehdognpiaaDoor
open Go.RowKit
set_option linter.unusedVariables false
set_option maxRecDepth 100000

theorem below_deck {w w' : World} {g B : Nat} (h : w.grownBy w' (some g)) (hB : B ≤ g) (hg : g < w.heap.size) : Below B w w' := below_of_grown h hB (by omega)

def posA : List ByteArray := [⟨#[49, 57, 56, 48, 48, 50, 48, 51]⟩, ⟨#[49, 57, 56, 48, 48, 51, 48, 50]⟩, ⟨#[50, 48, 48, 48]⟩, ⟨#[]⟩]
def posB : List ByteArray := [⟨#[49, 57, 56, 48, 48, 50, 48, 51]⟩, ⟨#[49, 57, 56, 48, 48, 51, 48, 50]⟩, ⟨#[49, 57, 56, 48, 48, 50, 48, 51, 120]⟩, ⟨#[50, 48, 48]⟩, ⟨#[]⟩]
theorem posA_size : ∀ s ∈ posA, s.size ≤ 9 := by decide
theorem posB_size : ∀ s ∈ posB, s.size ≤ 9 := by decide
theorem pos_same (a b : ByteArray) (ha : a.size ≤ 9) (hb : b.size ≤ 9) : decide (GM.posL a.data.toList = GM.posL b.data.toList) = (a.toList == b.toList) := by
  rw [str_beq, Bool.eq_iff_iff, decide_eq_true_eq, beq_iff_eq]
  exact GM.pos_inj (by simp; omega) (by simp; omega)
theorem pos_common (a : ByteArray) (ha : a.size ≤ 9) : GM.commonN (GM.posL a.data.toList) (GM.posL a.data.toList) = a.size := by
  rw [GM.common_self, GM.setL_pos, GM.pos_length (by simp; omega)]
  simp

set_option maxHeartbeats 2000000 in
theorem GramPositions_walk (A : Option Addr) (n c : Nat) (w : World) (hE : Env w) (hI : IntsArg w A n c) :
    Calls Tryd.prog 7 #[.slice A n c] w fun e w' => e = .returned (.bool true) ∧ Below w.heap.size w w' := by
  have HE := Lib.hid hE
  have HI := Lib.hid hI
  clear hE hI
  go_enter Tryd.func7, Tryd.ntmps7
  go_wp2_with fail
  refine (awake5_any w HE.out).mono ?_
  rintro e w1 ⟨rfl, b1⟩
  go_wp2_with fail
  refine (Few_any A n c w1 (Nat.le_trans HI.out.1 HI.out.2.1)).mono ?_
  rintro e w1' ⟨rfl, rfl⟩
  have hE1 := Lib.hid (HE.out.below b1 HE.out.size)
  by_cases hn : n ≤ 400
  · have hd : decide (n ≤ 400) = true := by simp [hn]
    rw [hd]
    clear hd
    go_wp2_with fail
    refine (New_any A n c w1 (HI.out.below b1)).mono ?_
    rintro e w2 ⟨rfl, hd2, b2⟩
    generalize hg : w1.heap.size = g at *
    have HG := Lib.hid hg
    clear hg
    have hgw : w.heap.size ≤ g := by rw [← HG.out]; exact b1.size
    have b2' : Below w.heap.size w w2 := b1.trans (b2.mono hgw)
    go_wp2_with fail
    refine (Pick_lit g w2 posA hd2 (by decide) (by decide)).mono ?_
    rintro e w3 ⟨sa, hsa, rfl, hd3, g3⟩
    have hza := posA_size sa hsa
    clear hsa
    have b3 : Below w.heap.size w w3 := b2'.trans (below_deck g3 hgw hd2.lt)
    go_wp2_with fail
    refine (Pick_lit g w3 posB hd3 (by decide) (by decide)).mono ?_
    rintro e w4 ⟨sb, hsb, rfl, hd4, g4⟩
    have hzb := posB_size sb hsb
    clear hsb
    have b4 : Below w.heap.size w w4 := b3.trans (below_deck g4 hgw hd3.lt)
    have HPS := Lib.hid (pos_same sa sb hza hzb)
    have HPL := Lib.hid (show (GM.posL sa.data.toList).length = sa.size by rw [GM.pos_length (by simp; omega)]; simp)
    have HPC := Lib.hid (pos_common sa hza)
    have HF := Lib.hid (fit_two (GM.pos_two sa.data.toList))
    have HP := Lib.hid (fun (W : World) => Positional_any sa W (by omega))
    go_wp2_with fail
    refine (HP.out w4).mono ?_
    rintro e w5 ⟨v5, rfl, o5, b5⟩
    have b5' := b4.trans (b5.mono b4.size)
    go_wp2_with fail
    refine (Positional_any sb w5 (by omega)).mono ?_
    rintro e w6 ⟨v6, rfl, o6, b6⟩
    have b6' := b5'.trans (b6.mono b5'.size)
    go_wp2_with fail
    refine (Same_lists (o5.below b6) o6).mono ?_
    rintro e w7 ⟨rfl, b7⟩
    have b7' := b6'.trans (b7.mono b6'.size)
    rw [HPS.out]
    generalize GM.posL sb.data.toList = PB at *
    generalize GM.posL sa.data.toList = PA at *
    clear o5 o6
    go_wp2_with fail
    refine (HP.out w7).mono ?_
    rintro e w8 ⟨v8, rfl, o8, b8⟩
    have b8' := b7'.trans (b8.mono b7'.size)
    obtain ⟨a8, c8, rfl, -, -, -⟩ := owns_read o8
    rw [HPL.out]
    clear o8
    go_wp2_with fail
    refine (HP.out w8).mono ?_
    rintro e w9 ⟨v9, rfl, o9, b9⟩
    have b9' := b8'.trans (b9.mono b8'.size)
    go_wp2_with fail
    refine (HP.out w9).mono ?_
    rintro e w10 ⟨v10, rfl, o10, b10⟩
    have b10' := b9'.trans (b10.mono b9'.size)
    have hPl : PA.length ≤ 1000000 := by rw [HPL.out]; omega
    go_wp2_with fail
    refine (Common_lists (o9.below b10) o10 hPl hPl HF.out HF.out).mono ?_
    rintro e w11 ⟨rfl, b11⟩
    rw [HPC.out]
    go_wp2
    go_ret
    exact ⟨rfl, b10'.trans (b11.mono b10'.size)⟩
  · have hd : decide (n ≤ 400) = false := by simp; omega
    rw [hd]
    clear hd
    go_wp2_with fail
    refine (awake5_any w1 hE1.out).mono ?_
    rintro e w2 ⟨rfl, b2⟩
    go_wp2
    go_ret
    exact ⟨rfl, b1.trans (b2.mono b1.size)⟩

theorem grams_ne {t : ByteArray} (h : lowB t = true) : GM.setL (GM.gramsL t.data.toList) ≠ [] := by
  have hl := low_lows h
  have hz : t.data.toList.length ≤ 8 := by rw [size_list]; exact hl.2
  rw [GM.setL_grams, GM.grams_one hl.1.word_ (by omega)]
  intro e
  have h0 : GM.setL (GM.bigr (95 :: t.data.toList ++ [95])) = [] := e
  have h1 : GM.bigr (95 :: t.data.toList ++ [95]) = [] := by
    cases hb : GM.bigr (95 :: t.data.toList ++ [95]) with
    | nil => rfl
    | cons a r =>
      have : a ∈ GM.setL (GM.bigr (95 :: t.data.toList ++ [95])) := GM.mem_setL.2 (by rw [hb]; exact List.mem_cons_self ..)
      rw [h0] at this
      cases this
  have h2 := GM.bigr_length (95 :: t.data.toList ++ [95])
  rw [h1] at h2
  simp at h2
theorem append_two {A B : List (List UInt8)} (hA : ∀ z ∈ A, z.length = 2) (hB : ∀ z ∈ B, z.length = 2) : ∀ z ∈ A ++ B, z.length = 2 := by
  intro z hz
  rcases List.mem_append.1 hz with h | h
  · exact hA z h
  · exact hB z h
theorem full_same {A B : List (List UInt8)} (hA : GM.setL A ≠ []) (hs : A.length + B.length < 1000) : ((GM.diceN A B : Int) == 1000) = decide (GM.setL A = GM.setL B) := by
  have h1 := GM.length_setL A
  have h2 := GM.length_setL B
  have h3 := GM.dice_full (a := A) (b := B) hA (by omega)
  rw [Bool.eq_iff_iff, beq_iff_eq, decide_eq_true_eq, ← h3]
  omega

set_option maxHeartbeats 4000000 in
theorem GramDice_walk (A : Option Addr) (n c : Nat) (w : World) (hE : Env w) (hI : IntsArg w A n c) :
    Calls Tryd.prog 6 #[.slice A n c] w fun e w' => e = .returned (.bool true) ∧ Below w.heap.size w w' := by
  have HE := Lib.hid hE
  have HI := Lib.hid hI
  clear hE hI
  go_enter Tryd.func6, Tryd.ntmps6
  go_wp2_with fail
  refine (awake5_any w HE.out).mono ?_
  rintro e w1 ⟨rfl, b1⟩
  go_wp2_with fail
  refine (Few_any A n c w1 (Nat.le_trans HI.out.1 HI.out.2.1)).mono ?_
  rintro e w1' ⟨rfl, rfl⟩
  have hE1 := Lib.hid (HE.out.below b1 HE.out.size)
  by_cases hn : n ≤ 400
  · have hd : decide (n ≤ 400) = true := by simp [hn]
    rw [hd]
    clear hd
    go_wp2_with fail
    refine (New_any A n c w1 (HI.out.below b1)).mono ?_
    rintro e w2 ⟨rfl, hd2, b2⟩
    generalize hg : w1.heap.size = g at *
    have HG := Lib.hid hg
    clear hg
    have hgw : w.heap.size ≤ g := by rw [← HG.out]; exact b1.size
    have b2' : Below w.heap.size w w2 := b1.trans (b2.mono hgw)
    go_wp2_with fail
    refine (Token_any g w2 hd2).mono ?_
    rintro e w3 ⟨ta, rfl, hta, hd3, g3⟩
    have hza := low_size hta
    have HNA := Lib.hid (grams_ne hta)
    clear hta
    have b3 : Below w.heap.size w w3 := b2'.trans (below_deck g3 hgw hd2.lt)
    go_wp2_with fail
    refine (rGrams_any ta w3 (by omega)).mono ?_
    rintro e w4 ⟨va, rfl, oa, b4⟩
    have hd4 := hd3.below b4 hd3.lt
    have b4' := b3.trans (b4.mono b3.size)
    go_wp2_with fail
    refine (Token_any g w4 hd4).mono ?_
    rintro e w5 ⟨tb, rfl, htb, hd5, g5⟩
    have hzb := low_size htb
    clear htb
    have b5 : Below w.heap.size w w5 := b4'.trans (below_deck g5 hgw hd4.lt)
    have oa5 := oa.deck g5 hd3.lt
    clear oa
    go_wp2_with fail
    refine (rGrams_any tb w5 (by omega)).mono ?_
    rintro e w6 ⟨vb, rfl, ob, b6⟩
    have hd6 := hd5.below b6 hd5.lt
    have b6' := b5.trans (b6.mono b5.size)
    have oa6 := oa5.below b6
    clear oa5
    go_wp2_with fail
    refine (One_any g w6 hd6 3 (by omega) (by omega)).mono ?_
    rintro e w7 ⟨b7, rfl, hd7, g7⟩
    have bb : Below w.heap.size w w7 := b6'.trans (below_deck g7 hgw hd6.lt)
    have hA := oa6.deck g7 hd3.lt
    have hB := ob.deck g7 hd5.lt
    have HTA := Lib.hid (GM.grams_two ta.data.toList)
    have HTB := Lib.hid (GM.grams_two tb.data.toList)
    have hla := GM.grams_le ta.data.toList
    have hlb := GM.grams_le tb.data.toList
    clear oa6 ob
    generalize GM.gramsL ta.data.toList = GA at *
    generalize GM.gramsL tb.data.toList = GB at *
    have HFA := Lib.hid (fit_two HTA.out)
    cases b7
    · have HFB := Lib.hid (fit_two HTB.out)
      have HSM := Lib.hid (full_same (B := GB) HNA.out (by omega))
      have HDC := Lib.hid (GM.dice_comm GA GB)
      have HCC := Lib.hid (GM.common_comm GA GB)
      have hdl : GM.diceN GA GB ≤ 1000 := GM.dice_le GA GB
      clear hd7 hd6 hd5 hd4 hd3 hd2
      go_wp2_with fail
      refine (Dice_lists hA hB (by omega) (by omega) HFA.out HFB.out).mono ?_
      rintro e x1 ⟨rfl, d1⟩
      have d1' := bb.trans (d1.mono bb.size)
      have hA1 := hA.below d1
      have hB1 := hB.below d1
      go_wp2_with fail
      refine (rSet_lists hA1 (by omega)).mono ?_
      rintro e x2 ⟨u1, rfl, s1, d2⟩
      have d2' := d1'.trans (d2.mono d1'.size)
      go_wp2_with fail
      refine (rSet_lists (hB1.below d2) (by omega)).mono ?_
      rintro e x3 ⟨u2, rfl, s2, d3⟩
      have d3' := d2'.trans (d3.mono d2'.size)
      go_wp2_with fail
      refine (Same_lists (s1.below d3) s2).mono ?_
      rintro e x4 ⟨rfl, d4⟩
      have d4' := d3'.trans (d4.mono d3'.size)
      have hA4 := ((hA1.below d2).below d3).below d4
      have hB4 := ((hB1.below d2).below d3).below d4
      rw [← HSM.out]
      clear s1 s2 hA1 hB1
      go_wp2_with fail
      refine (Dice_lists hB4 hA4 (by omega) (by omega) HFB.out HFA.out).mono ?_
      rintro e x5 ⟨rfl, d5⟩
      have d5' := d4'.trans (d5.mono d4'.size)
      rw [← HDC.out]
      have hA5 := hA4.below d5
      have hB5 := hB4.below d5
      clear hA4 hB4
      go_wp2_with fail
      refine (Common_lists hA5 hB5 (by omega) (by omega) HFA.out HFB.out).mono ?_
      rintro e x6 ⟨rfl, d6⟩
      have d6' := d5'.trans (d6.mono d5'.size)
      go_wp2_with fail
      refine (Common_lists (hB5.below d6) (hA5.below d6) (by omega) (by omega) HFB.out HFA.out).mono ?_
      rintro e x7 ⟨rfl, d7⟩
      have d7' := d6'.trans (d7.mono d6'.size)
      rw [← HCC.out]
      go_wp2_with fail
      refine (Dice_lists (owns_nil 0 x7) (owns_nil 0 x7) (by simp) (by simp) (by simp) (by simp)).mono ?_
      rintro e x8 ⟨rfl, d8⟩
      rw [show GM.diceN [] [] = 0 from rfl]
      go_wp2
      go_ret
      exact ⟨rfl, d7'.trans (d8.mono d7'.size)⟩
    · clear hB HTB hlb
      have HAW := Lib.hid hA
      clear hA
      have hbsz := bb.size
      go_wp2_with (at_builtin; refine wpList_append_lists rfl _ _ rfl w7.heap.size (Nat.le_refl _) _ [] rfl (owns_nil _ _) _ _ GA rfl HAW.out (by simp; omega) ?_)
      intro v8 w8 own8 grow8
      have bl8 : Below w7.heap.size w7 w8 := below_none grow8 (Nat.le_refl _) (fun q hq => by cases hq)
      have HAW8 := Lib.hid (HAW.out.below bl8)
      have HO8 := Lib.hid (show OwnsL w7.heap.size w8 v8 GA from own8)
      have hs8 := bl8.size
      clear own8
      go_wp2_with (at_builtin; refine wpList_append_lists rfl _ _ rfl w7.heap.size hs8 _ GA rfl HO8.out _ _ GA rfl HAW8.out (by omega) ?_)
      intro v9 w9 own9 grow9
      have bl9 : Below w7.heap.size w8 w9 := below_none grow9 hs8 (fun q hq => (owns_at HO8.out hq).1)
      have hA : OwnsL w3.heap.size w9 va GA := owns_grown HAW8.out grow9 (fun q hq e => by
        have h1 := (owns_at HO8.out hq).1
        have h2 := (owns_at HAW.out e).2
        omega)
      have hB : OwnsL w7.heap.size w9 v9 (GA ++ GA) := own9
      have bb : Below w.heap.size w w9 := bb.trans ((bl8.trans bl9).mono hbsz)
      have HFB := Lib.hid (fit_two (append_two HTA.out HTA.out))
      have HSM := Lib.hid (full_same (B := GA ++ GA) HNA.out (by rw [List.length_append]; omega))
      have HDC := Lib.hid (GM.dice_comm GA (GA ++ GA))
      have HCC := Lib.hid (GM.common_comm GA (GA ++ GA))
      have hdl : GM.diceN GA (GA ++ GA) ≤ 1000 := GM.dice_le GA (GA ++ GA)
      have hlg : (GA ++ GA).length ≤ 130 := by rw [List.length_append]; omega
      clear hd7 hd6 hd5 hd4 hd3 hd2 own9
      generalize GA ++ GA = GB at *
      go_wp2_with fail
      refine (Dice_lists hA hB (by omega) (by omega) HFA.out HFB.out).mono ?_
      rintro e x1 ⟨rfl, d1⟩
      have d1' := bb.trans (d1.mono bb.size)
      have hA1 := hA.below d1
      have hB1 := hB.below d1
      go_wp2_with fail
      refine (rSet_lists hA1 (by omega)).mono ?_
      rintro e x2 ⟨u1, rfl, s1, d2⟩
      have d2' := d1'.trans (d2.mono d1'.size)
      go_wp2_with fail
      refine (rSet_lists (hB1.below d2) (by omega)).mono ?_
      rintro e x3 ⟨u2, rfl, s2, d3⟩
      have d3' := d2'.trans (d3.mono d2'.size)
      go_wp2_with fail
      refine (Same_lists (s1.below d3) s2).mono ?_
      rintro e x4 ⟨rfl, d4⟩
      have d4' := d3'.trans (d4.mono d3'.size)
      have hA4 := ((hA1.below d2).below d3).below d4
      have hB4 := ((hB1.below d2).below d3).below d4
      rw [← HSM.out]
      clear s1 s2 hA1 hB1
      go_wp2_with fail
      refine (Dice_lists hB4 hA4 (by omega) (by omega) HFB.out HFA.out).mono ?_
      rintro e x5 ⟨rfl, d5⟩
      have d5' := d4'.trans (d5.mono d4'.size)
      rw [← HDC.out]
      have hA5 := hA4.below d5
      have hB5 := hB4.below d5
      clear hA4 hB4
      go_wp2_with fail
      refine (Common_lists hA5 hB5 (by omega) (by omega) HFA.out HFB.out).mono ?_
      rintro e x6 ⟨rfl, d6⟩
      have d6' := d5'.trans (d6.mono d5'.size)
      go_wp2_with fail
      refine (Common_lists (hB5.below d6) (hA5.below d6) (by omega) (by omega) HFB.out HFA.out).mono ?_
      rintro e x7 ⟨rfl, d7⟩
      have d7' := d6'.trans (d7.mono d6'.size)
      rw [← HCC.out]
      go_wp2_with fail
      refine (Dice_lists (owns_nil 0 x7) (owns_nil 0 x7) (by simp) (by simp) (by simp) (by simp)).mono ?_
      rintro e x8 ⟨rfl, d8⟩
      rw [show GM.diceN [] [] = 0 from rfl]
      go_wp2
      go_ret
      exact ⟨rfl, d7'.trans (d8.mono d7'.size)⟩
  · have hd : decide (n ≤ 400) = false := by simp; omega
    rw [hd]
    clear hd
    go_wp2_with fail
    refine (awake5_any w1 hE1.out).mono ?_
    rintro e w2 ⟨rfl, b2⟩
    go_wp2
    go_ret
    exact ⟨rfl, b1.trans (b2.mono b1.size)⟩


theorem spaced_three (a b : ByteArray) : (a ++ ⟨#[32]⟩ ++ b ++ ⟨#[32]⟩ ++ a : ByteArray).data.toList = a.data.toList ++ 32 :: (b.data.toList ++ 32 :: a.data.toList) := by
  rw [data_add, data_add, spaced]
  simp
theorem size_spaced (a b : ByteArray) : (a ++ ⟨#[32]⟩ ++ b : ByteArray).size = a.size + b.size + 1 := by
  rw [size_add, size_add]
  have : (⟨#[32]⟩ : ByteArray).size = 1 := rfl
  omega
theorem size_three (a b : ByteArray) : (a ++ ⟨#[32]⟩ ++ b ++ ⟨#[32]⟩ ++ a : ByteArray).size = a.size + b.size + a.size + 2 := by
  rw [size_add, size_add, size_spaced]
  have : (⟨#[32]⟩ : ByteArray).size = 1 := rfl
  omega

set_option maxHeartbeats 4000000 in
theorem GramTokens_walk (A : Option Addr) (n c : Nat) (w : World) (hE : Env w) (hI : IntsArg w A n c) :
    Calls Tryd.prog 4 #[.slice A n c] w fun e w' => e = .returned (.bool true) ∧ Below w.heap.size w w' := by
  have HE := Lib.hid hE
  have HI := Lib.hid hI
  clear hE hI
  go_enter Tryd.func4, Tryd.ntmps4
  go_wp2_with fail
  refine (awake5_any w HE.out).mono ?_
  rintro e w1 ⟨rfl, b1⟩
  go_wp2_with fail
  refine (Few_any A n c w1 (Nat.le_trans HI.out.1 HI.out.2.1)).mono ?_
  rintro e w1' ⟨rfl, rfl⟩
  have hE1 := Lib.hid (HE.out.below b1 HE.out.size)
  by_cases hn : n ≤ 400
  · have hd : decide (n ≤ 400) = true := by simp [hn]
    rw [hd]
    clear hd
    go_wp2_with fail
    refine (New_any A n c w1 (HI.out.below b1)).mono ?_
    rintro e w2 ⟨rfl, hd2, b2⟩
    generalize hg : w1.heap.size = g at *
    have HG := Lib.hid hg
    clear hg
    have hgw : w.heap.size ≤ g := by rw [← HG.out]; exact b1.size
    have b2' : Below w.heap.size w w2 := b1.trans (b2.mono hgw)
    go_wp2_with fail
    refine (Token_any g w2 hd2).mono ?_
    rintro e w3 ⟨ta, rfl, hta, hd3, g3⟩
    have hza := low_size hta
    have b3 : Below w.heap.size w w3 := b2'.trans (below_deck g3 hgw hd2.lt)
    go_wp2_with fail
    refine (Token_any g w3 hd3).mono ?_
    rintro e w4 ⟨tb, rfl, htb, hd4, g4⟩
    have hzb := low_size htb
    have b4 : Below w.heap.size w w4 := b3.trans (below_deck g4 hgw hd3.lt)
    have hsw := GM.grams_swap (low_lows hta).1.word_ (low_lows htb).1.word_ (by rw [size_list, size_list]; omega)
    rw [← spaced_three, ← spaced, ← spaced] at hsw
    obtain ⟨s1, s2, s3⟩ := hsw
    have HG1 := Lib.hid (fun (W : World) (hW : Env W) => Grams_any (ta ++ ⟨#[32]⟩ ++ tb) W hW (by rw [size_spaced]; omega))
    have hG2 := fun (W : World) (hW : Env W) => Grams_any (tb ++ ⟨#[32]⟩ ++ ta) W hW (by rw [size_spaced]; omega)
    have hG3 := fun (W : World) (hW : Env W) => Grams_any (ta ++ ⟨#[32]⟩ ++ tb ++ ⟨#[32]⟩ ++ ta) W hW (by rw [size_three]; omega)
    rw [← s1] at hG2
    rw [← s2] at hG3
    have HG2 := Lib.hid hG2
    have HG3 := Lib.hid hG3
    have HGA := Lib.hid (fun (W : World) (hW : Env W) => Grams_any ta W hW (by omega))
    have HGB := Lib.hid (fun (W : World) (hW : Env W) => Grams_any tb W hW (by omega))
    have HS3 := Lib.hid s3
    have hla := GM.grams_le ta.data.toList
    have hlb := GM.grams_le tb.data.toList
    clear hG2 hG3 s1 s2 s3 hta htb hd2 hd3 hd4
    generalize GM.gramsL (ta ++ ⟨#[32]⟩ ++ tb : ByteArray).data.toList = G at *
    generalize GM.gramsL ta.data.toList = GA at *
    generalize GM.gramsL tb.data.toList = GB at *
    go_wp2_with fail
    refine (HG1.out w4 (HE.out.below b4 HE.out.size)).mono ?_
    rintro e w5 ⟨v5, rfl, o5, b5⟩
    have b5' := b4.trans (b5.mono b4.size)
    go_wp2_with fail
    refine (HGA.out w5 (HE.out.below b5' HE.out.size)).mono ?_
    rintro e w6 ⟨v6, rfl, o6, b6⟩
    have b6' := b5'.trans (b6.mono b5'.size)
    have HO6 := Lib.hid o6
    have h56 := b6.size
    clear o6
    go_wp2_with (at_builtin; refine wpList_append_lists rfl _ _ rfl w6.heap.size (Nat.le_refl _) _ [] rfl (owns_nil _ _) _ _ GA rfl HO6.out (by simp; omega) ?_)
    intro v7 w7 own7 grow7
    have b7 : Below w6.heap.size w6 w7 := below_none grow7 (Nat.le_refl _) (fun q hq => by cases hq)
    have b7' := b6'.trans (b7.mono b6'.size)
    have HO7 := Lib.hid (show OwnsL w6.heap.size w7 v7 GA from own7)
    have h67 := b7.size
    clear own7 HO6
    go_wp2_with fail
    refine (HGB.out w7 (HE.out.below b7' HE.out.size)).mono ?_
    rintro e w8 ⟨v8, rfl, o8, b8⟩
    have b8' := b7'.trans (b8.mono b7'.size)
    have HO8 := Lib.hid o8
    have HO7' := Lib.hid (HO7.out.below b8)
    have h78 := b8.size
    clear o8 HO7
    go_wp2_with (at_builtin; refine wpList_append_lists rfl _ _ rfl w6.heap.size (by omega) _ GA rfl HO7'.out _ _ GB rfl HO8.out (by omega) ?_)
    intro v9 w9 own9 grow9
    have b9 : Below w6.heap.size w8 w9 := below_none grow9 (by omega) (fun q hq => (owns_at HO7'.out hq).1)
    have b9' := b8'.trans (b9.mono b6'.size)
    have HO9 := Lib.hid own9
    have HX := Lib.hid (show OwnsL w4.heap.size w9 v5 G from owns_grown (((o5.below b6).below b7).below b8) grow9 (fun q hq e => by
      have h1 := (owns_at HO7'.out hq).1
      have h2 := (owns_at o5 e).2
      omega))
    have hlab : (GA ++ GB).length ≤ 130 := by rw [List.length_append]; omega
    clear own9 HO7' HO8 o5
    generalize GA ++ GB = GAB at *
    go_wp2_with fail
    refine (HG2.out w9 (HE.out.below b9' HE.out.size)).mono ?_
    rintro e x1 ⟨u1, rfl, p1, d1⟩
    have d1' := b9'.trans (d1.mono b9'.size)
    go_wp2_with fail
    refine (Same_lists (HX.out.below d1) p1).mono ?_
    rintro e x2 ⟨rfl, d2⟩
    have d2' := d1'.trans (d2.mono d1'.size)
    rw [decide_eq_true rfl]
    clear p1
    go_wp2_with fail
    refine (HG3.out x2 (HE.out.below d2' HE.out.size)).mono ?_
    rintro e x3 ⟨u3, rfl, p3, d3⟩
    have d3' := d2'.trans (d3.mono d2'.size)
    have hX3 := ((HX.out.below d1).below d2).below d3
    go_wp2_with fail
    refine (Same_lists hX3 p3).mono ?_
    rintro e x4 ⟨rfl, d4⟩
    have d4' := d3'.trans (d4.mono d3'.size)
    rw [decide_eq_true rfl]
    have hX4 := hX3.below d4
    have hB4 := (((HO9.out.below d1).below d2).below d3).below d4
    clear p3 hX3
    go_wp2_with fail
    refine (rSet_lists hB4 (by omega)).mono ?_
    rintro e x5 ⟨u5, rfl, p5, d5⟩
    have d5' := d4'.trans (d5.mono d4'.size)
    rw [← HS3.out] at p5
    go_wp2_with fail
    refine (Same_lists (hX4.below d5) p5).mono ?_
    rintro e x6 ⟨rfl, d6⟩
    rw [decide_eq_true rfl]
    go_wp2
    go_ret
    exact ⟨rfl, d5'.trans (d6.mono d5'.size)⟩
  · have hd : decide (n ≤ 400) = false := by simp; omega
    rw [hd]
    clear hd
    go_wp2_with fail
    refine (awake5_any w1 hE1.out).mono ?_
    rintro e w2 ⟨rfl, b2⟩
    go_wp2
    go_ret
    exact ⟨rfl, b1.trans (b2.mono b1.size)⟩

end Go.Proofs.YtjdjjehdognpiaaDoor
