/- Walks of the laws' own helpers: awake, some (changes drawn by the deck) and bent (a text behind some changes). -/
import Derived.Test.YtgokinfejbefjaaDoorDistLawM
import Derived.Test.YtgokinfejbefjaaDoorDistScrP
import Derived.Test.YtgokinfejbefjaaDoorDistEditP
import Derived.Test.YtgokinfejbefjaaDoorDistAppP
namespace Go.Proofs.YtgokinfejbefjaaDoor
open Go.RowKit
set_option linter.unusedVariables false
set_option maxRecDepth 100000

theorem Edit_is (a b : ByteArray) (n : Nat) (h : editN a b = (n, 0)) (w : World) (hE : SEnv w) (ha : a.size ≤ maxLen) (hb : b.size ≤ maxLen) :
    Calls Tryd.prog 13 #[.string a, .string b] w fun e w' => e = .returned (.tuple #[.int .i64 (n : Int), .int .i64 0]) ∧ Below w.heap.size w w' := by
  have := Edit_any a b w hE ha hb
  unfold editV at this
  rw [h] at this
  exact this
theorem Script_is (a b : ByteArray) (L : List DM.Ch) (h : scN a b = (L, 0)) (w : World) (hE : SEnv w) (ha : a.size ≤ maxLen) (hb : b.size ≤ maxLen) :
    Calls Tryd.prog 15 #[.string a, .string b] w fun e w' => ∃ v, e = .returned (.tuple #[v, .int .i64 0]) ∧ IsChs w'.heap.size w' v L ∧ Below w.heap.size w w' := by
  have := Script_any a b w hE ha hb
  rw [h] at this
  exact this
theorem Proves_is (B : Nat) (a b : ByteArray) (v : Value) (cs : List DM.Ch) (t : Bool) (h : prB a b cs = t) (w : World) (ha : a.size ≤ maxLen) (hc : IsChs B w v cs) (hB : B ≤ w.heap.size) (hl : cs.length ≤ 1000000) :
    Calls Tryd.prog 22 #[.string a, .string b, v] w fun e w' => e = .returned (.bool t) ∧ Below w.heap.size w w' := by
  have := Proves_any B a b v cs w ha hc hB hl
  rw [h] at this
  exact this

set_option maxHeartbeats 2000000 in
theorem awake7_any (w : World) (hE : SEnv w) : Calls Tryd.prog 8 #[] w fun e w' => e = .returned (.bool true) ∧ Below w.heap.size w w' := by
  have HE := Lib.hid hE
  clear hE
  go_enter Tryd.func8, Tryd.ntmps8
  go_wp2_with fail
  refine (Edit_is _ _ 1 edit_one w HE.out (by decide) (by decide)).mono ?_
  rintro e w1 ⟨rfl, b1⟩
  go_wp2_with fail
  refine (Edit_is _ _ 3 edit_three w1 (HE.out.below b1 (Nat.le_refl _)) (by decide) (by decide)).mono ?_
  rintro e w2 ⟨rfl, b2⟩
  have b2' := b1.trans (b2.mono b1.size)
  go_wp2_with fail
  refine (Script_is _ _ _ script_one w2 (HE.out.below b2' (Nat.le_refl _)) (by decide) (by decide)).mono ?_
  rintro e w3 ⟨v, rfl, hC, b3⟩
  have b3' := b2'.trans (b3.mono b2'.size)
  have HC := Lib.hid hC
  obtain ⟨A, c, rfl, h1, h2, -, hc⟩ := hC.cells
  obtain ⟨b, o, rfl, hb, x0, x1, x2⟩ := hc 0 (by decide)
  clear hC hc
  simp only [List.length_cons, List.length_nil, Nat.zero_add, Nat.zero_mul, Nat.add_zero] at h1 x0 HC ⊢
  unfold maxLen at h2
  have hpr := script_pr ⟨#[109, 97, 114, 116, 97]⟩ ⟨#[109, 97, 116, 114, 97]⟩ (by decide) (by decide)
  have hsc := script_one
  unfold scN at hsc
  rw [if_neg (by decide)] at hsc
  rw [(Prod.mk.inj hsc).1] at hpr
  have HPR := Lib.hid hpr
  clear hpr hsc
  go_wp2_with fail
  refine (Proves_is _ _ _ _ _ true HPR.out w3 (by decide) HC.out (Nat.le_refl _) (by decide)).mono ?_
  rintro e w4 ⟨rfl, b4⟩
  go_wp2
  go_ret
  exact ⟨rfl, b3'.trans (b4.mono b3'.size)⟩

theorem OwnsCh.grownG {base g : Nat} {w w' : World} {v : Value} {cs : List DM.Ch} (h : OwnsCh base w v cs) (hg : w.grownBy w' (some g)) (hb : g < base) : OwnsCh base w' v cs := by
  refine World.ownsRow.kept (row := some g) h hg ?_
  cases hv : v.ownBlock with
  | none => exact .inl rfl
  | some k =>
    have := (World.ownsRow.lt h k hv).1
    exact .inr (fun e => by injection e; omega)
theorem OwnsCh.slice_ {base : Nat} {w : World} {v : Value} {cs : List DM.Ch} (h : OwnsCh base w v cs) : ∃ a c, v = .slice a cs.length c ∧ cs.length ≤ c ∧ c ≤ maxLen := by
  rcases h.2 with ⟨hv, h0⟩ | ⟨g, cap, cur, hv, hbg, hg, hnc, hcm, -⟩
  · exact ⟨none, 0, by rw [hv, h0], by omega, Nat.zero_le _⟩
  · exact ⟨_, cap, hv, hnc, hcm⟩
theorem right_ok {n : Nat} {L : List DM.Ch} (hn : n ≤ 1000000) (h : L.all (DM.right n) = true) : ∀ x ∈ L, chOk x := by
  intro x hx
  have := DM.right_cases (List.all_eq_true.1 h x hx)
  unfold chOk
  omega

/-- Drawn changes up to the place p. -/
structure Drawn (n p : Nat) (L : List DM.Ch) : Prop where
  ord_ : DM.ord L = true
  right_ : L.all (DM.right n) = true
  last : ∀ q : DM.Ch, (p : Int) ≤ q.2.1 → ∀ c ∈ L.getLast?, DM.after c q = true
theorem Drawn.nil (n : Nat) : Drawn n 0 [] := ⟨rfl, rfl, fun q hq c hc => by simp at hc⟩
theorem Drawn.skip {n p : Nat} {L : List DM.Ch} (h : Drawn n p L) : Drawn n (p + 1) L := ⟨h.ord_, h.right_, fun q hq c hc => h.last q (by omega) c hc⟩
theorem Drawn.snoc {n p p' : Nat} {L : List DM.Ch} {c : DM.Ch} (h : Drawn n p L) (hc : c.2.1 = (p : Int)) (hr : DM.right n c = true) (hl : ∀ q : DM.Ch, (p' : Int) ≤ q.2.1 → DM.after c q = true) : Drawn n p' (L ++ [c]) where
  ord_ := DM.ord_snoc L c h.ord_ (fun q hq => h.last c (by omega) q hq)
  right_ := by rw [List.all_append, h.right_]; simp [hr]
  last q hq d hd := by
    rw [List.getLast?_append] at hd
    simp at hd
    rw [← hd]
    exact hl q hq
theorem Drawn.ins {n p : Nat} {L : List DM.Ch} (h : Drawn n p L) (y : Int) (hp : p ≤ n) (h0 : 0 ≤ y) (h1 : y ≤ 255) : Drawn n (p + 1) (L ++ [(1, (p : Int), y)]) :=
  h.snoc rfl (by simp [DM.right]; omega) (fun q hq => by simp [DM.after]; omega)
theorem Drawn.rep {n p : Nat} {L : List DM.Ch} (h : Drawn n p L) (y : Int) (hp : p < n) (h0 : 0 ≤ y) (h1 : y ≤ 255) : Drawn n (p + 1) (L ++ [(3, (p : Int), y)]) :=
  h.snoc rfl (by simp [DM.right]; omega) (fun q hq => by simp [DM.after]; omega)
theorem Drawn.del {n p : Nat} {L : List DM.Ch} (h : Drawn n p L) (hp : p < n) : Drawn n (p + 1) (L ++ [(2, (p : Int), 0)]) :=
  h.snoc rfl (by simp [DM.right]; omega) (fun q hq => by simp [DM.after]; omega)
theorem Drawn.swp {n p : Nat} {L : List DM.Ch} (h : Drawn n p L) (hp : p + 1 < n) : Drawn n (p + 2) (L ++ [(4, (p : Int), 0)]) :=
  h.snoc rfl (by simp [DM.right]; omega) (fun q hq => by simp [DM.after]; omega)

/-- What some returns: ordered changes of a text of n bytes, at most so many. -/
structure Somes (n most : Nat) (w : World) (v : Value) (L : List DM.Ch) : Prop where
  is_ : IsChs w.heap.size w v L
  ord_ : DM.ord L = true
  right_ : L.all (DM.right n) = true
  len : L.length ≤ most

set_option maxHeartbeats 8000000 in
theorem some_any (g : Nat) (w : World) (hd : Deck g w) (s : ByteArray) (most : Nat) (hs : s.size ≤ 64) (hm : most ≤ 100) :
    Calls Tryd.prog 25 #[.pointer (some ⟨g, 0, none⟩), .string s, .int .i64 most] w fun e w' => ∃ v, e = .returned v ∧ (∃ L, Somes s.size most w' v L) ∧ Deck g w' ∧ w.grownBy w' (some g) := by
  have HD := Lib.hid hd
  have hgw := hd.lt
  clear hd
  go_enter Tryd.func25, Tryd.ntmps25
  go_wp2
  go_loopw [7, 8] (fun ov av wr => ∃ (p : Nat) (L : List DM.Ch), p ≤ s.size + 1 ∧ av = .int .i64 p ∧ OwnsCh w.heap.size wr ov L ∧ Drawn s.size p L ∧ L.length ≤ most ∧ Deck g wr ∧ w.grownBy wr (some g)) (fun _ av _ => s.size + 2 - (intOf av).toNat)
  case atStart => exact ⟨0, [], Nat.zero_le _, rfl, World.ownsRow_nil _ _ _ _, Drawn.nil _, Nat.zero_le _, HD.out, grown_refl _ _⟩
  case round =>
    obtain ⟨p, L, hp, rfl, hown, hdr, hL, hd, hg⟩ := hrel
    have HW := Lib.hid hown
    have HDR := Lib.hid hdr
    obtain ⟨A, cap, rfl, hc1, hc2⟩ := hown.slice_
    clear hown hdr
    unfold maxLen at hc2
    by_cases hps : p ≤ s.size
    · have t1 : (p : Int) ≤ (s.size : Int) := by omega
      by_cases hlm : L.length < most
      · have t2 : (L.length : Int) < (most : Int) := by omega
        go_wp2_with fail
        refine (One_any g wr hd 3 (by omega) (by omega)).mono ?_
        rintro e w1 ⟨b1, rfl, hd1, hg1⟩
        have hg01 := grown_trans hg hg1
        cases b1
        · go_wp2
          exact ⟨⟨p + 1, L, by omega, by go_num, HW.out.grownG hg1 hgw, HDR.out.skip, hL, hd1, hg01⟩, by simp [intOf]; omega⟩
        · go_wp2_with fail
          refine (Next_any g w1 hd1 4 (by omega) (by omega)).mono ?_
          rintro e w2 ⟨x, rfl, ⟨hx0, hx1⟩, hd2, hg2⟩
          go_wp2_with fail
          refine (Next_any g w2 hd2 4 (by omega) (by omega)).mono ?_
          rintro e w3 ⟨y, rfl, ⟨hy0, hy1⟩, hd3, hg3⟩
          have hg13 := grown_trans hg1 (grown_trans hg2 hg3)
          have HW3 := Lib.hid (HW.out.grownG hg13 hgw)
          have hg03 := grown_trans hg hg13
          have hs3 := hg03.size
          clear hd1 hd2 hg1 hg2 hg3 hg01 hd
          obtain rfl | rfl | rfl | rfl : x = 0 ∨ x = 1 ∨ x = 2 ∨ x = 3 := by omega
          · go_wp2_with (at_builtin; refine wpList_append_back' rfl (.tmp 64) (.tmp 66) rfl w.heap.size (by simp; omega) (1, (p : Int), 97 + y) _ L rfl (World.ownsRow.alloc HW3.out _) ?hx (by omega) ?_)
            case hx => simp [Act.eval]
            intro v' w5 hown5 hb5 hq5
            have hkb := hq5 w3.heap.size (by simp) (fun e => by have := (World.ownsRow.lt HW3.out _ e).2; omega)
            have hk0 := (World.cell?_of_block (a := ⟨w3.heap.size, 0, none⟩) hkb).trans (new_cell w3 _ 46 0 _ rfl)
            have hd5 := (hd3.alloc _).below hb5 hgw
            have hg5 := grown_below (grown_alloc hg03 _) hb5 (Nat.le_refl _)
            have HO5 := Lib.hid hown5
            clear hown5 hb5 hq5 hkb
            go_wp2
            exact ⟨⟨p + 1, _, by omega, by go_num, HO5.out, HDR.out.ins (97 + y) (by omega) (by omega) (by omega), by rw [List.length_append]; simp; omega, hd5, hg5⟩, by simp [intOf]; omega⟩
          · by_cases hpe : p = s.size
            · have t3 : ((p : Int) == (s.size : Int)) = true := by simp; omega
              clear hpe
              go_wp2_with (at_builtin; refine wpList_append_back' rfl (.tmp 64) (.tmp 66) rfl w.heap.size (by simp; omega) (1, (p : Int), 97 + y) _ L rfl (World.ownsRow.alloc HW3.out _) ?hx (by omega) ?_)
              case hx => simp [Act.eval]
              intro v' w5 hown5 hb5 hq5
              have hkb := hq5 w3.heap.size (by simp) (fun e => by have := (World.ownsRow.lt HW3.out _ e).2; omega)
              have hk0 := (World.cell?_of_block (a := ⟨w3.heap.size, 0, none⟩) hkb).trans (new_cell w3 _ 46 0 _ rfl)
              have hd5 := (hd3.alloc _).below hb5 hgw
              have hg5 := grown_below (grown_alloc hg03 _) hb5 (Nat.le_refl _)
              have HO5 := Lib.hid hown5
              clear hown5 hb5 hq5 hkb
              go_wp2
              exact ⟨⟨p + 1, _, by omega, by go_num, HO5.out, HDR.out.ins (97 + y) (by omega) (by omega) (by omega), by rw [List.length_append]; simp; omega, hd5, hg5⟩, by simp [intOf]; omega⟩
            · have t3 : ((p : Int) == (s.size : Int)) = false := by simp; omega
              go_wp2_with (at_builtin; refine wpList_append_back' rfl (.tmp 64) (.tmp 66) rfl w.heap.size (by simp; omega) (2, (p : Int), 0) _ L rfl (World.ownsRow.alloc HW3.out _) ?hx (by omega) ?_)
              case hx => simp [Act.eval]
              intro v' w5 hown5 hb5 hq5
              have hkb := hq5 w3.heap.size (by simp) (fun e => by have := (World.ownsRow.lt HW3.out _ e).2; omega)
              have hk0 := (World.cell?_of_block (a := ⟨w3.heap.size, 0, none⟩) hkb).trans (new_cell w3 _ 46 0 _ rfl)
              have hd5 := (hd3.alloc _).below hb5 hgw
              have hg5 := grown_below (grown_alloc hg03 _) hb5 (Nat.le_refl _)
              have HO5 := Lib.hid hown5
              clear hown5 hb5 hq5 hkb
              go_wp2
              exact ⟨⟨p + 1, _, by omega, by go_num, HO5.out, HDR.out.del (by omega), by rw [List.length_append]; simp; omega, hd5, hg5⟩, by simp [intOf]; omega⟩
          · by_cases hpe : p = s.size
            · have t3 : ((p : Int) == (s.size : Int)) = true := by simp; omega
              clear hpe
              go_wp2_with (at_builtin; refine wpList_append_back' rfl (.tmp 64) (.tmp 66) rfl w.heap.size (by simp; omega) (1, (p : Int), 97 + y) _ L rfl (World.ownsRow.alloc HW3.out _) ?hx (by omega) ?_)
              case hx => simp [Act.eval]
              intro v' w5 hown5 hb5 hq5
              have hkb := hq5 w3.heap.size (by simp) (fun e => by have := (World.ownsRow.lt HW3.out _ e).2; omega)
              have hk0 := (World.cell?_of_block (a := ⟨w3.heap.size, 0, none⟩) hkb).trans (new_cell w3 _ 46 0 _ rfl)
              have hd5 := (hd3.alloc _).below hb5 hgw
              have hg5 := grown_below (grown_alloc hg03 _) hb5 (Nat.le_refl _)
              have HO5 := Lib.hid hown5
              clear hown5 hb5 hq5 hkb
              go_wp2
              exact ⟨⟨p + 1, _, by omega, by go_num, HO5.out, HDR.out.ins (97 + y) (by omega) (by omega) (by omega), by rw [List.length_append]; simp; omega, hd5, hg5⟩, by simp [intOf]; omega⟩
            · have t3 : ((p : Int) == (s.size : Int)) = false := by simp; omega
              go_wp2_with (at_builtin; refine wpList_append_back' rfl (.tmp 64) (.tmp 66) rfl w.heap.size (by simp; omega) (3, (p : Int), 97 + y) _ L rfl (World.ownsRow.alloc HW3.out _) ?hx (by omega) ?_)
              case hx => simp [Act.eval]
              intro v' w5 hown5 hb5 hq5
              have hkb := hq5 w3.heap.size (by simp) (fun e => by have := (World.ownsRow.lt HW3.out _ e).2; omega)
              have hk0 := (World.cell?_of_block (a := ⟨w3.heap.size, 0, none⟩) hkb).trans (new_cell w3 _ 46 0 _ rfl)
              have hd5 := (hd3.alloc _).below hb5 hgw
              have hg5 := grown_below (grown_alloc hg03 _) hb5 (Nat.le_refl _)
              have HO5 := Lib.hid hown5
              clear hown5 hb5 hq5 hkb
              go_wp2
              exact ⟨⟨p + 1, _, by omega, by go_num, HO5.out, HDR.out.rep (97 + y) (by omega) (by omega) (by omega), by rw [List.length_append]; simp; omega, hd5, hg5⟩, by simp [intOf]; omega⟩
          · by_cases hpe : p = s.size
            · have t3 : ((p : Int) == (s.size : Int)) = true := by simp; omega
              clear hpe
              go_wp2_with (at_builtin; refine wpList_append_back' rfl (.tmp 64) (.tmp 66) rfl w.heap.size (by simp; omega) (1, (p : Int), 97 + y) _ L rfl (World.ownsRow.alloc HW3.out _) ?hx (by omega) ?_)
              case hx => simp [Act.eval]
              intro v' w5 hown5 hb5 hq5
              have hkb := hq5 w3.heap.size (by simp) (fun e => by have := (World.ownsRow.lt HW3.out _ e).2; omega)
              have hk0 := (World.cell?_of_block (a := ⟨w3.heap.size, 0, none⟩) hkb).trans (new_cell w3 _ 46 0 _ rfl)
              have hd5 := (hd3.alloc _).below hb5 hgw
              have hg5 := grown_below (grown_alloc hg03 _) hb5 (Nat.le_refl _)
              have HO5 := Lib.hid hown5
              clear hown5 hb5 hq5 hkb
              go_wp2
              exact ⟨⟨p + 1, _, by omega, by go_num, HO5.out, HDR.out.ins (97 + y) (by omega) (by omega) (by omega), by rw [List.length_append]; simp; omega, hd5, hg5⟩, by simp [intOf]; omega⟩
            · have t3 : ((p : Int) == (s.size : Int)) = false := by simp; omega
              by_cases hp1 : s.size ≤ p + 1
              · have t4 : (s.size : Int) ≤ (p : Int) + 1 := by omega
                go_wp2_with (at_builtin; refine wpList_append_back' rfl (.tmp 64) (.tmp 66) rfl w.heap.size (by simp; omega) (1, (p : Int), 97 + y) _ L rfl (World.ownsRow.alloc HW3.out _) ?hx (by omega) ?_)
                case hx => simp [Act.eval]
                intro v' w5 hown5 hb5 hq5
                have hkb := hq5 w3.heap.size (by simp) (fun e => by have := (World.ownsRow.lt HW3.out _ e).2; omega)
                have hk0 := (World.cell?_of_block (a := ⟨w3.heap.size, 0, none⟩) hkb).trans (new_cell w3 _ 46 0 _ rfl)
                have hd5 := (hd3.alloc _).below hb5 hgw
                have hg5 := grown_below (grown_alloc hg03 _) hb5 (Nat.le_refl _)
                have HO5 := Lib.hid hown5
                clear hown5 hb5 hq5 hkb
                go_wp2
                exact ⟨⟨p + 1, _, by omega, by go_num, HO5.out, HDR.out.ins (97 + y) (by omega) (by omega) (by omega), by rw [List.length_append]; simp; omega, hd5, hg5⟩, by simp [intOf]; omega⟩
              · have t4 : ¬ (s.size : Int) ≤ (p : Int) + 1 := by omega
                go_wp2_with (at_builtin; refine wpList_append_back' rfl (.tmp 64) (.tmp 66) rfl w.heap.size (by simp; omega) (4, (p : Int), 0) _ L rfl (World.ownsRow.alloc HW3.out _) ?hx (by omega) ?_)
                case hx => simp [Act.eval]
                intro v' w5 hown5 hb5 hq5
                have hkb := hq5 w3.heap.size (by simp) (fun e => by have := (World.ownsRow.lt HW3.out _ e).2; omega)
                have hk0 := (World.cell?_of_block (a := ⟨w3.heap.size, 0, none⟩) hkb).trans (new_cell w3 _ 46 0 _ rfl)
                have hd5 := (hd3.alloc _).below hb5 hgw
                have hg5 := grown_below (grown_alloc hg03 _) hb5 (Nat.le_refl _)
                have HO5 := Lib.hid hown5
                clear hown5 hb5 hq5 hkb
                go_wp2
                exact ⟨⟨p + 2, _, by omega, by go_num, HO5.out, HDR.out.swp (by omega), by rw [List.length_append]; simp; omega, hd5, hg5⟩, by simp [intOf]; omega⟩
      · have t2 : ¬ (L.length : Int) < (most : Int) := by omega
        go_wp2
        go_ret
        exact ⟨_, rfl, ⟨L, ⟨HW.out.is (right_ok (by omega) HDR.out.right_), HDR.out.ord_, HDR.out.right_, hL⟩⟩, hd, hg⟩
    · have t1 : ¬ (p : Int) ≤ (s.size : Int) := by omega
      go_wp2
      go_ret
      exact ⟨_, rfl, ⟨L, ⟨HW.out.is (right_ok (by omega) HDR.out.right_), HDR.out.ord_, HDR.out.right_, hL⟩⟩, hd, hg⟩

theorem ap_len (a : ByteArray) (L : List DM.Ch) (h1 : DM.ord L = true) (h2 : L.all (DM.right a.size) = true) : (DM.ap a.data.toList L).length ≤ a.size + L.length := by
  have hal := size_list a
  obtain ⟨p1, p2, -⟩ := fold_place a.data.toList L h1 (by rw [hal]; exact h2) L.length (Nat.le_refl _)
  rw [List.take_length] at p1 p2
  unfold DM.ap
  rw [List.length_append, List.length_drop]
  omega
theorem apN_some (a : ByteArray) (L : List DM.Ch) (ha : a.size ≤ 64) (hL : L.length ≤ 64) (h1 : DM.ord L = true) (h2 : L.all (DM.right a.size) = true) : apN a L = (bs (DM.ap a.data.toList L), 0) := by
  have := ap_len a L h1 h2
  unfold apN
  rw [if_neg (by omega), if_neg (by rw [h1]; decide), if_neg (by rw [h2]; decide), if_neg (by omega)]

set_option maxHeartbeats 1000000 in
theorem bent_any (g : Nat) (w : World) (hd : Deck g w) (s : ByteArray) (most : Nat) (hs : s.size ≤ 64) (hm : most ≤ 64) :
    Calls Tryd.prog 12 #[.pointer (some ⟨g, 0, none⟩), .string s, .int .i64 most] w fun e w' => ∃ t, e = .returned (.string t) ∧ t.size ≤ s.size + most ∧ Deck g w' ∧ w.grownBy w' (some g) := by
  go_enter Tryd.func12, Tryd.ntmps12
  go_wp2_with fail
  refine (some_any g w hd s most hs (by omega)).mono ?_
  rintro e w1 ⟨v, rfl, ⟨L, hS⟩, hd1, hg1⟩
  have hA := rApply_any w1.heap.size s v L w1 (by unfold maxLen; omega) hS.is_ (Nat.le_refl _) (by have := hS.len; omega)
  have hap := apN_some s L hs (by have := hS.len; omega) hS.ord_ hS.right_
  have hl := Lib.hid (ap_len s L hS.ord_ hS.right_)
  have hlm := hS.len
  unfold apV at hA
  rw [hap] at hA
  have HA := Lib.hid hA
  have hz := Lib.hid (show (bs (DM.ap s.data.toList L)).size = (DM.ap s.data.toList L).length from rfl)
  clear hA hap hS
  go_wp2_with fail
  refine HA.out.mono ?_
  rintro e w2 ⟨rfl, b2⟩
  have hd2 := hd1.below b2 hd1.lt
  have hg2 := grown_below hg1 b2 hg1.size
  go_wp2
  go_ret
  exact ⟨_, rfl, by rw [hz.out]; have := hl.out; omega, hd2, hg2⟩
end Go.Proofs.YtgokinfejbefjaaDoor
