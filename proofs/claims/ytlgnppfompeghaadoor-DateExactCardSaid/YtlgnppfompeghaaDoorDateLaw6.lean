/- The walk of DateExact. -/
import Derived.Test.YtlgnppfompeghaaDoorDateAge
import Derived.Test.YtlgnppfompeghaaDoorDateParse3
import Derived.Test.YtlgnppfompeghaaDoorDateLaw4
import Derived.Test.YtlgnppfompeghaaDoorDateForms
namespace Go.Proofs.YtlgnppfompeghaaDoor
open Go.RowKit
set_option linter.unusedVariables false

theorem from_same {n : Int} {v v' : Value} (h : FromIs n v) (h' : FromIs n v') : v = v' := by
  by_cases hin : 0 ≤ n ∧ n < 146097
  · obtain ⟨y, m, d, hv, hd, rfl⟩ := from_in h hin.1 hin.2
    obtain ⟨y', m', d', hv', hd', rfl⟩ := from_in h' hin.1 hin.2
    obtain ⟨rfl, rfl, rfl⟩ := DM.day_inj hv hv' (hd.trans hd'.symm)
    rfl
  · rw [from_out h (by omega), from_out h' (by omega)]
theorem from_shape {n : Int} {v : Value} (h : FromIs n v) : ∃ a b c e, v = .tuple #[dateV a b c, .int .i64 e] := by
  unfold FromIs at h
  split at h
  · obtain ⟨y, m, d, _, _, rfl⟩ := h
    exact ⟨_, _, _, _, rfl⟩
  · exact ⟨_, _, _, _, h⟩
theorem fmt_shape (y m d : Int) : ∃ s e, fmtV y m d = .tuple #[.string s, .int .i64 e] := by
  unfold fmtV
  split
  · exact ⟨_, _, rfl⟩
  · exact ⟨_, _, rfl⟩
theorem day_shape (y m d : Int) : ∃ a e, dayV y m d = .tuple #[.int .i64 a, .int .i64 e] := by
  unfold dayV
  split
  · exact ⟨_, _, rfl⟩
  · exact ⟨_, _, rfl⟩
theorem swap_shape (y m d : Int) : ∃ a b c t, swapV y m d = .tuple #[dateV a b c, .bool t] := by
  unfold swapV
  split
  · exact ⟨_, _, _, _, rfl⟩
  · exact ⟨_, _, _, _, rfl⟩
theorem age_shape (y m d y' m' d' : Int) : ∃ a e, ageV y m d y' m' d' = .tuple #[.int .i64 a, .int .i64 e] := by
  unfold ageV
  split
  · split
    · exact ⟨_, _, rfl⟩
    · exact ⟨_, _, rfl⟩
  · exact ⟨_, _, rfl⟩
theorem rd_shape (s : ByteArray) : ∃ a b c e, rdV s = .tuple #[dateV a b c, .int .i64 e] := by
  unfold rdV
  split
  · exact readV_cases _ _ _
  · exact ⟨_, _, _, _, rfl⟩
theorem ps_shape (s : ByteArray) : ∃ a b c e, psV s = .tuple #[dateV a b c, .int .i64 e] := by
  unfold psV
  split
  · split
    · exact readV_cases _ _ _
    · split
      · exact readV_cases _ _ _
      · split
        · exact readV_cases _ _ _
        · exact ⟨_, _, _, _, rfl⟩
  · exact ⟨_, _, _, _, rfl⟩

/-- What the statement holds in blocks of its own: three dates, and the deck. -/
structure ES (p q r g : Nat) (a b c y m d y' m' d' : Int) (w0 w : World) : Prop where
  at_ : DateAt p w a b c
  one : DateAt q w y m d
  two : DateAt r w y' m' d'
  deck : Deck g w
  bel : Below w0.heap.size w0 w
theorem ES.below {p q r g : Nat} {a b c y m d y' m' d' : Int} {w0 w w' : World} (h : ES p q r g a b c y m d y' m' d' w0 w) (hb : Below w.heap.size w w') : ES p q r g a b c y m d y' m' d' w0 w' :=
  ⟨h.at_.below hb (Nat.le_refl _), h.one.below hb (Nat.le_refl _), h.two.below hb (Nat.le_refl _), h.deck.below hb h.deck.lt, below_then h.bel hb⟩
/-- What a round holds. -/
structure RS (p q1 q2 : Nat) (a b c a' b' c' : Int) (wb w : World) : Prop where
  one : DateAt p w a b c
  two : DateAt q1 w a' b' c'
  three : DateAt q2 w a' b' c'
  env : DEnv w
  bel : Below wb.heap.size wb w
theorem RS.below {p q1 q2 : Nat} {a b c a' b' c' : Int} {wb w w' : World} (h : RS p q1 q2 a b c a' b' c' wb w) (hb : Below w.heap.size w w') : RS p q1 q2 a b c a' b' c' wb w' :=
  ⟨h.one.below hb (Nat.le_refl _), h.two.below hb (Nat.le_refl _), h.three.below hb (Nat.le_refl _), h.env.below hb, below_then h.bel hb⟩
theorem RS.drew {p q1 q2 : Nat} {a b c a' b' c' : Int} {wb w : World} (h : RS p q1 q2 a b c a' b' c' wb w) : RS p q1 q2 a b c a' b' c' wb w.drew := h.below (below_drewN (Below.refl _ _) 1)
theorem RS.cells {p q1 q2 : Nat} {a b c a' b' c' : Int} {wb w : World} (h : RS p q1 q2 a b c a' b' c' wb w) :
    w.cell? ⟨p, 0, none⟩ = some (.int .i64 a) ∧ w.cell? ⟨p, 1, none⟩ = some (.int .i64 b) ∧ w.cell? ⟨p, 2, none⟩ = some (.int .i64 c) ∧
    w.cell? ⟨q1, 0, none⟩ = some (.int .i64 a') ∧ w.cell? ⟨q1, 1, none⟩ = some (.int .i64 b') ∧ w.cell? ⟨q1, 2, none⟩ = some (.int .i64 c') ∧
    w.cell? ⟨q2, 0, none⟩ = some (.int .i64 a') ∧ w.cell? ⟨q2, 1, none⟩ = some (.int .i64 b') ∧ w.cell? ⟨q2, 2, none⟩ = some (.int .i64 c') :=
  ⟨h.one.parts.1, h.one.parts.2.1, h.one.parts.2.2.1, h.two.parts.1, h.two.parts.2.1, h.two.parts.2.2.1, h.three.parts.1, h.three.parts.2.1, h.three.parts.2.2.1⟩
/-- A dealt date, the deck. -/
structure TS (q g : Nat) (y m d : Int) (w0 w : World) : Prop where
  one : DateAt q w y m d
  deck : Deck g w
  bel : Below w0.heap.size w0 w
theorem TS.below {q g : Nat} {y m d : Int} {w0 w w' : World} (h : TS q g y m d w0 w) (hb : Below w.heap.size w w') : TS q g y m d w0 w' :=
  ⟨h.one.below hb (Nat.le_refl _), h.deck.below hb h.deck.lt, below_then h.bel hb⟩
theorem TS.drew {q g : Nat} {y m d : Int} {w0 w : World} (h : TS q g y m d w0 w) : TS q g y m d w0 w.drew := h.below (below_drewN (Below.refl _ _) 1)
theorem TS.grown {q g : Nat} {y m d : Int} {w0 w w' : World} (h : TS q g y m d w0 w) (hd : Deck g w') (hg : w.grownBy w' (some g)) (hne : q ≠ g) (hgw : w0.heap.size ≤ g) : TS q g y m d w0 w' :=
  ⟨dateAt_keep h.one hg hne, hd, dealt_below h.bel hg hgw⟩
theorem TS.cells {q g : Nat} {y m d : Int} {w0 w : World} (h : TS q g y m d w0 w) : w.cell? ⟨q, 0, none⟩ = some (.int .i64 y) ∧ w.cell? ⟨q, 1, none⟩ = some (.int .i64 m) ∧ w.cell? ⟨q, 2, none⟩ = some (.int .i64 d) :=
  ⟨h.one.parts.1, h.one.parts.2.1, h.one.parts.2.2.1⟩
/-- The deck alone. -/
structure US (g : Nat) (w0 w : World) : Prop where
  deck : Deck g w
  bel : Below w0.heap.size w0 w
theorem US.below {g : Nat} {w0 w w' : World} (h : US g w0 w) (hb : Below w.heap.size w w') : US g w0 w' := ⟨h.deck.below hb h.deck.lt, below_then h.bel hb⟩
theorem US.drew {g : Nat} {w0 w : World} (h : US g w0 w) : US g w0 w.drew := h.below (below_drewN (Below.refl _ _) 1)
theorem US.grown {g : Nat} {w0 w w' : World} (h : US g w0 w) (hd : Deck g w') (hg : w.grownBy w' (some g)) (hgw : w0.heap.size ≤ g) : US g w0 w' := ⟨hd, dealt_below h.bel hg hgw⟩
def pickL : List ByteArray := [⟨#[50, 48, 48, 48, 45, 49, 45, 48, 49]⟩, ⟨#[50, 48, 48, 48, 48, 50, 50, 57]⟩, ⟨#[49, 57, 48, 48, 48, 50, 50, 57]⟩, ⟨#[48, 48, 48, 48, 48, 48, 48, 48]⟩, ⟨#[50, 48, 48, 48, 47, 48, 49, 47, 48, 50]⟩, ⟨#[48, 49, 45, 48, 50, 45, 50, 48, 48, 48]⟩]
theorem pick_size : ∀ s ∈ pickL, s.size ≤ 10 := by decide
theorem three_cells (W : World) (cs : Array Value) (T : TypeId) (k : Nat) (a b c : Int) (h0 : cs[k * 3]? = some (.int .i64 a)) (h1 : cs[k * 3 + 1]? = some (.int .i64 b)) (h2 : cs[k * 3 + 2]? = some (.int .i64 c)) :
    (W.alloc (.cells cs T)).cell? ⟨W.heap.size, k * 3, none⟩ = some (.int .i64 a) ∧ (W.alloc (.cells cs T)).cell? ⟨W.heap.size, k * 3 + 1, none⟩ = some (.int .i64 b) ∧ (W.alloc (.cells cs T)).cell? ⟨W.heap.size, k * 3 + 2, none⟩ = some (.int .i64 c) := by
  have h := heap_alloc_new W (.cells cs T)
  exact ⟨(cell_of_row _ _ _ _ _ _ h).trans h0, (cell_of_row _ _ _ _ _ _ h).trans h1, (cell_of_row _ _ _ _ _ _ h).trans h2⟩

set_option maxHeartbeats 16000000 in
set_option maxRecDepth 100000 in
theorem DateExact_walk (A : Option Addr) (n c : Nat) (ry rm rd ay am ad : Int) (s : ByteArray) (z : Int) (w : World) (hE : DEnv w) (hI : IntsArg w A n c) (hs : s.size ≤ maxLen) (hz0 : -9223372036854775808 ≤ z) (hz1 : z ≤ 9223372036854775807) :
    Calls Tryd.prog 3 #[.slice A n c, dateV ry rm rd, dateV ay am ad, .string s, .int .i64 z] w fun e w' => e = .returned (.bool true) ∧ Below w.heap.size w w' := by
  have HE := Lib.hid hE
  have HI := Lib.hid hI
  have HS := Lib.hid hs
  clear hE hI hs
  have P0 := Lib.hid ((dateAt_new w ry rm rd rfl).alloc (.cells #[.int .i64 ay, .int .i64 am, .int .i64 ad] 24))
  have Q0 := Lib.hid (dateAt_new (b := w.heap.size + 1) (w.alloc (.cells #[.int .i64 ry, .int .i64 rm, .int .i64 rd] 24)) ay am ad (by simp))
  have B0 := Lib.hid (below_new2 w (.cells #[.int .i64 ry, .int .i64 rm, .int .i64 rd] 24) (.cells #[.int .i64 ay, .int .i64 am, .int .i64 ad] 24))
  unfold dateV
  go_enter Tryd.func3, Tryd.ntmps3
  go_wp2_with fail
  refine (awake3_any _ (HE.out.below B0.out)).mono ?_
  rintro e w1 ⟨rfl, b1⟩
  have P1 := Lib.hid (P0.out.below b1 (Nat.le_refl _))
  have Q1 := Lib.hid (Q0.out.below b1 (Nat.le_refl _))
  have B1 := Lib.hid (below_then B0.out b1)
  clear b1 P0 Q0 B0
  go_wp2_with fail
  refine (Few_any A n c w1 (Nat.le_trans HI.out.1 HI.out.2.1)).mono ?_
  rintro e w1' ⟨rfl, rfl⟩
  by_cases hn : n ≤ 400
  · have hd : decide (n ≤ 400) = true := by simp [hn]
    rw [hd]
    clear hd
    go_wp2_with fail
    refine (Short_any _ _ [s] _ (texts_lit w1 [s] (by unfold maxLen; simp))).mono ?_
    rintro e w2 ⟨rfl, rfl⟩
    rw [short_one]
    have P2 := Lib.hid (P1.out.alloc (.cells ([s].map Value.string).toArray 9))
    have Q2 := Lib.hid (Q1.out.alloc (.cells ([s].map Value.string).toArray 9))
    have B2 := Lib.hid (below_then B1.out (below_new w1 (.cells ([s].map Value.string).toArray 9)))
    generalize w1.alloc (.cells ([s].map Value.string).toArray 9) = w2 at *
    clear P1 Q1 B1
    by_cases hsz : s.size ≤ 200
    · have hd : decide (s.size ≤ 200) = true := by simp [hsz]
      rw [hd]
      clear hd
      go_wp2_with fail
      refine (New_any A n c w2 (HI.out.below B2.out)).mono ?_
      rintro e w3 ⟨rfl, hd3, b3⟩
      have hgw : w.heap.size ≤ w2.heap.size := B2.out.size
      have P3 := Lib.hid (P2.out.below b3 (Nat.le_refl _))
      have Q3 := Lib.hid (Q2.out.below b3 (Nat.le_refl _))
      have hgp : w.heap.size + 1 < w2.heap.size := Q2.out.lt
      have B3 := Lib.hid (below_then B2.out b3)
      clear b3 P2 Q2 B2
      generalize hg : w2.heap.size = g at *
      clear hg
      go_wp2_with fail
      refine (Date_any g w3 hd3).mono ?_
      rintro e w4 ⟨y, m, d, rfl, ⟨⟨y1, y2⟩, ⟨m1, m2⟩, d1, d2⟩, hd4, g4⟩
      have P4 := Lib.hid (dateAt_keep P3.out g4 (by omega))
      have Q4 := Lib.hid (dateAt_keep Q3.out g4 (by omega))
      have B4 := Lib.hid (dealt_below B3.out g4 hgw)
      clear g4 P3 Q3 B3 hd3
      go_wp2_with fail
      refine (Date_any g w4 hd4).mono ?_
      rintro e w5 ⟨y', m', d', rfl, ⟨⟨y1', y2'⟩, ⟨m1', m2'⟩, d1', d2'⟩, hd5, g5⟩
      have P5 := Lib.hid (dateAt_keep P4.out g5 (by omega))
      have Q5 := Lib.hid (dateAt_keep Q4.out g5 (by omega))
      have B5 := Lib.hid (dealt_below B4.out g5 hgw)
      clear g5 P4 Q4 B4 hd4
      unfold dateV
      have X6 := Lib.hid ((dateAt_new w5 y m d rfl).alloc (.cells #[.int .i64 y', .int .i64 m', .int .i64 d'] 24))
      have Y6 := Lib.hid (dateAt_new (b := w5.heap.size + 1) (w5.alloc (.cells #[.int .i64 y, .int .i64 m, .int .i64 d] 24)) y' m' d' (by simp))
      have P6 := Lib.hid ((P5.out.alloc (.cells #[.int .i64 y, .int .i64 m, .int .i64 d] 24)).alloc (.cells #[.int .i64 y', .int .i64 m', .int .i64 d'] 24))
      have Q6 := Lib.hid ((Q5.out.alloc (.cells #[.int .i64 y, .int .i64 m, .int .i64 d] 24)).alloc (.cells #[.int .i64 y', .int .i64 m', .int .i64 d'] 24))
      have B6 := Lib.hid (below_then B5.out (below_new2 w5 (.cells #[.int .i64 y, .int .i64 m, .int .i64 d] 24) (.cells #[.int .i64 y', .int .i64 m', .int .i64 d'] 24)))
      have D6 := Lib.hid ((hd5.alloc (.cells #[.int .i64 y, .int .i64 m, .int .i64 d] 24)).alloc (.cells #[.int .i64 y', .int .i64 m', .int .i64 d'] 24))
      have ES6 := Lib.hid (show ES (w.heap.size + 1) w5.heap.size (w5.heap.size + 1) g ay am ad y m d y' m' d' w ((w5.alloc (.cells #[.int .i64 y, .int .i64 m, .int .i64 d] 24)).alloc (.cells #[.int .i64 y', .int .i64 m', .int .i64 d'] 24)) from ⟨Q6.out, X6.out, Y6.out, D6.out, B6.out⟩)
      have hgs := hd5.lt
      clear P5 Q5 B5
      obtain ⟨c0, c1, c2, -, -, -⟩ := P6.out.parts
      go_wp2_with fail
      clear c0 c1 c2
      clear P6 Q6 X6 Y6 D6 B6 hd5
      generalize hW6 : (w5.alloc (.cells #[.int .i64 y, .int .i64 m, .int .i64 d] 24)).alloc (.cells #[.int .i64 y', .int .i64 m', .int .i64 d'] 24) = W6 at *
      have hs6 : W6.heap.size = w5.heap.size + 1 + 1 := by rw [← hW6]; simp
      clear hW6
      have hx : ∀ k, k < 2 → ∃ a b c : Int, (W6.alloc (.cells #[.int .i64 ry, .int .i64 rm, .int .i64 rd, .int .i64 y, .int .i64 m, .int .i64 d] 24)).cell? ⟨w5.heap.size + 1 + 1, k * 3, none⟩ = some (.int .i64 a) ∧ (W6.alloc (.cells #[.int .i64 ry, .int .i64 rm, .int .i64 rd, .int .i64 y, .int .i64 m, .int .i64 d] 24)).cell? ⟨w5.heap.size + 1 + 1, k * 3 + 1, none⟩ = some (.int .i64 b) ∧ (W6.alloc (.cells #[.int .i64 ry, .int .i64 rm, .int .i64 rd, .int .i64 y, .int .i64 m, .int .i64 d] 24)).cell? ⟨w5.heap.size + 1 + 1, k * 3 + 2, none⟩ = some (.int .i64 c) := by
        intro k hk
        rw [← hs6]
        match k, hk with
        | 0, _ => exact ⟨ry, rm, rd, three_cells W6 _ _ 0 ry rm rd rfl rfl rfl⟩
        | 1, _ => exact ⟨y, m, d, three_cells W6 _ _ 1 y m d rfl rfl rfl⟩
      have HX := Lib.hid hx
      clear hx
      have ES7 := Lib.hid (ES6.out.below (below_new W6 (.cells #[.int .i64 ry, .int .i64 rm, .int .i64 rd, .int .i64 y, .int .i64 m, .int .i64 d] 24)))
      have hS7 : w5.heap.size + 1 + 1 < (W6.alloc (.cells #[.int .i64 ry, .int .i64 rm, .int .i64 rd, .int .i64 y, .int .i64 m, .int .i64 d] 24)).heap.size := by rw [← hs6]; simp
      clear ES6 hs6
      generalize W6.alloc (.cells #[.int .i64 ry, .int .i64 rm, .int .i64 rd, .int .i64 y, .int .i64 m, .int .i64 d] 24) = W at *
      go_loopw [75] (fun i wr => ∃ k : Nat, k ≤ 2 ∧ i = .int .i64 k ∧ Below W.heap.size W wr) (fun i _ => 2 - (intOf i).toNat)
      case atStart => exact ⟨0, by omega, rfl, Below.refl _ _⟩
      case round =>
        obtain ⟨k, hk, rfl, hb⟩ := hrel
        by_cases hlt : k < 2
        · have t0 : decide ((k : Int) < 2) = true := by simp; omega
          obtain ⟨a, b, c', e0, e1, e2⟩ := HX.out k hlt
          have e0 := (hb.cell (p := ⟨w5.heap.size + 1 + 1, k * 3, none⟩) hS7).trans e0
          have e1 := (hb.cell (p := ⟨w5.heap.size + 1 + 1, k * 3 + 1, none⟩) hS7).trans e1
          have e2 := (hb.cell (p := ⟨w5.heap.size + 1 + 1, k * 3 + 2, none⟩) hS7).trans e2
          have ESr := Lib.hid ((ES7.out.below hb).below (below_new wr (.cells #[.int .i64 a, .int .i64 b, .int .i64 c'] 24)))
          have Pr := Lib.hid (dateAt_new wr a b c' rfl)
          have Bw := Lib.hid (hb.trans ((below_new wr (.cells #[.int .i64 a, .int .i64 b, .int .i64 c'] 24)).mono hb.size))
          clear hb
          obtain ⟨p0, p1, p2, -, -, -⟩ := ESr.out.at_.parts
          obtain ⟨q0, q1, q2, -, -, -⟩ := ESr.out.one.parts
          obtain ⟨r0, r1, r2, -, -, -⟩ := ESr.out.two.parts
          go_wp2_with fail
          clear p0 p1 p2 q0 q1 q2 r0 r1 r2 e0 e1 e2
          generalize hV : wr.alloc (.cells #[.int .i64 a, .int .i64 b, .int .i64 c'] 24) = V at *
          have hsV : V.heap.size = wr.heap.size + 1 := by rw [← hV]; simp
          clear hV
          have hx : ∀ j, j < 3 → ∃ e f h : Int, (V.alloc (.cells #[.int .i64 ay, .int .i64 am, .int .i64 ad, .int .i64 y', .int .i64 m', .int .i64 d', .int .i64 y, .int .i64 m, .int .i64 d] 24)).cell? ⟨wr.heap.size + 1, j * 3, none⟩ = some (.int .i64 e) ∧ (V.alloc (.cells #[.int .i64 ay, .int .i64 am, .int .i64 ad, .int .i64 y', .int .i64 m', .int .i64 d', .int .i64 y, .int .i64 m, .int .i64 d] 24)).cell? ⟨wr.heap.size + 1, j * 3 + 1, none⟩ = some (.int .i64 f) ∧ (V.alloc (.cells #[.int .i64 ay, .int .i64 am, .int .i64 ad, .int .i64 y', .int .i64 m', .int .i64 d', .int .i64 y, .int .i64 m, .int .i64 d] 24)).cell? ⟨wr.heap.size + 1, j * 3 + 2, none⟩ = some (.int .i64 h) := by
            intro j hj
            rw [← hsV]
            match j, hj with
            | 0, _ => exact ⟨ay, am, ad, three_cells V _ _ 0 ay am ad rfl rfl rfl⟩
            | 1, _ => exact ⟨y', m', d', three_cells V _ _ 1 y' m' d' rfl rfl rfl⟩
            | 2, _ => exact ⟨y, m, d, three_cells V _ _ 2 y m d rfl rfl rfl⟩
          have HY := Lib.hid hx
          clear hx
          have EV := Lib.hid (ESr.out.below (below_new V (.cells #[.int .i64 ay, .int .i64 am, .int .i64 ad, .int .i64 y', .int .i64 m', .int .i64 d', .int .i64 y, .int .i64 m, .int .i64 d] 24)))
          have PV := Lib.hid (Pr.out.alloc (.cells #[.int .i64 ay, .int .i64 am, .int .i64 ad, .int .i64 y', .int .i64 m', .int .i64 d', .int .i64 y, .int .i64 m, .int .i64 d] 24))
          have BV := Lib.hid (Bw.out.trans ((below_new V (.cells #[.int .i64 ay, .int .i64 am, .int .i64 ad, .int .i64 y', .int .i64 m', .int .i64 d', .int .i64 y, .int .i64 m, .int .i64 d] 24)).mono Bw.out.size))
          have hSV : wr.heap.size + 1 < (V.alloc (.cells #[.int .i64 ay, .int .i64 am, .int .i64 ad, .int .i64 y', .int .i64 m', .int .i64 d', .int .i64 y, .int .i64 m, .int .i64 d] 24)).heap.size := by rw [← hsV]; simp
          clear hsV ESr Pr Bw
          generalize V.alloc (.cells #[.int .i64 ay, .int .i64 am, .int .i64 ad, .int .i64 y', .int .i64 m', .int .i64 d', .int .i64 y, .int .i64 m, .int .i64 d] 24) = U at *
          generalize wr.heap.size = P at *
          have CA := Lib.hid (fun e f h W hW => Age_any a b c' e f h W hW)
          have CB := Lib.hid (fun e f h W => rAge_any a b c' e f h W)
          have CF := Lib.hid (fun W hW => Format_any a b c' W hW)
          have CG := Lib.hid (fun W => rFormat_any a b c' W)
          have CD := Lib.hid (fun W hW => Day_any a b c' W hW)
          have CE := Lib.hid (fun W => rDay_any a b c' W)
          have CS := Lib.hid (fun W hW => Swapped_any a b c' W hW)
          have CT := Lib.hid (fun W => rSwapped_any a b c' W)
          have CV := Lib.hid (fun W hW => Valid_any a b c' W hW)
          have CW := Lib.hid (fun W => rValid_any a b c' W)
          obtain ⟨fs, fe, hfm⟩ := fmt_shape a b c'
          obtain ⟨da, de, hdy⟩ := day_shape a b c'
          obtain ⟨sa, sb, sc, st, hsw⟩ := swap_shape a b c'
          rw [hfm] at CF CG
          rw [hdy] at CD CE
          rw [hsw] at CS CT
          clear hfm hdy hsw
          generalize DM.valid a b c' = va at *
          unfold dateV at CA CB CF CG CD CE CS CT CV CW
          go_loopw [84] (fun i wv => ∃ j : Nat, j ≤ 3 ∧ i = .int .i64 j ∧ Below U.heap.size U wv) (fun i _ => 3 - (intOf i).toNat)
          case atStart => exact ⟨0, by omega, rfl, Below.refl _ _⟩
          case round =>
            obtain ⟨j, hj, rfl, hb⟩ := hrel
            have EU := Lib.hid (EV.out.below hb)
            have PU := Lib.hid (PV.out.below hb (Nat.le_refl _))
            by_cases hlj : j < 3
            · have t1 : decide ((j : Int) < 3) = true := by simp; omega
              obtain ⟨e1, e2, e3, f0, f1, f2⟩ := HY.out j hlj
              have f0 := (hb.cell (p := ⟨P + 1, j * 3, none⟩) hSV).trans f0
              have f1 := (hb.cell (p := ⟨P + 1, j * 3 + 1, none⟩) hSV).trans f1
              have f2 := (hb.cell (p := ⟨P + 1, j * 3 + 2, none⟩) hSV).trans f2
              have BU := Lib.hid (hb.trans ((below_new wr (.cells #[.int .i64 e1, .int .i64 e2, .int .i64 e3] 24)).mono hb.size))
              clear hb
              have P1 := Lib.hid (PU.out.alloc (.cells #[.int .i64 e1, .int .i64 e2, .int .i64 e3] 24))
              have Q1 := Lib.hid (dateAt_new wr e1 e2 e3 rfl)
              have E1 := Lib.hid (EU.out.below (below_new wr (.cells #[.int .i64 e1, .int .i64 e2, .int .i64 e3] 24)))
              obtain ⟨ga, ge, hag⟩ := age_shape a b c' e1 e2 e3
              have CA1 := Lib.hid (CA.out e1 e2 e3)
              have CB1 := Lib.hid (CB.out e1 e2 e3)
              rw [hag] at CA1 CB1
              clear hag
              obtain ⟨p0, p1, p2, -, -, -⟩ := P1.out.parts
              go_wp2_with fail
              refine (CA1.out _ (HE.out.below E1.out.bel)).mono ?_
              rintro e w6 ⟨rfl, bk⟩
              clear p0 p1 p2
              have P2 := Lib.hid (P1.out.below bk (Nat.le_refl _))
              have Q2 := Lib.hid (Q1.out.below bk (Nat.le_refl _))
              have E2 := Lib.hid (E1.out.below bk)
              have BU2 := Lib.hid (BU.out.trans (bk.mono BU.out.size))
              clear bk P1 Q1 E1 BU
              obtain ⟨p0, p1, p2, -, -, -⟩ := P2.out.parts
              obtain ⟨q0, q1, q2, -, -, -⟩ := Q2.out.parts
              go_wp2_with fail
              refine (CB1.out _).mono ?_
              rintro e w7 ⟨rfl, bk⟩
              have BU3 := Lib.hid (BU2.out.trans (bk.mono BU2.out.size))
              clear bk p0 p1 p2 q0 q1 q2
              go_wp2_with fail
              exact ⟨⟨j + 1, by omega, by go_num, BU3.out⟩, by simp [intOf]; omega⟩
            · have BU := Lib.hid (BV.out.trans (hb.mono BV.out.size))
              clear hb
              obtain ⟨p0, p1, p2, -, -, -⟩ := PU.out.parts
              go_wp2_with fail
              refine (CF.out _ (HE.out.below EU.out.bel)).mono ?_
              rintro e w6 ⟨rfl, bk⟩
              clear p0 p1 p2
              have EU6 := Lib.hid (EU.out.below bk)
              have PU6 := Lib.hid (PU.out.below bk (Nat.le_refl _))
              have BU6 := Lib.hid (BU.out.trans (bk.mono BU.out.size))
              clear bk EU PU BU
              obtain ⟨p0, p1, p2, -, -, -⟩ := PU6.out.parts
              go_wp2_with fail
              refine (CG.out _).mono ?_
              rintro e w7 ⟨rfl, bk⟩
              clear p0 p1 p2
              have EU7 := Lib.hid (EU6.out.below bk)
              have PU7 := Lib.hid (PU6.out.below bk (Nat.le_refl _))
              have BU7 := Lib.hid (BU6.out.trans (bk.mono BU6.out.size))
              clear bk EU6 PU6 BU6
              obtain ⟨p0, p1, p2, -, -, -⟩ := PU7.out.parts
              go_wp2_with fail
              refine (CD.out _ (HE.out.below EU7.out.bel)).mono ?_
              rintro e w8 ⟨rfl, bk⟩
              clear p0 p1 p2
              have EU8 := Lib.hid (EU7.out.below bk)
              have PU8 := Lib.hid (PU7.out.below bk (Nat.le_refl _))
              have BU8 := Lib.hid (BU7.out.trans (bk.mono BU7.out.size))
              clear bk EU7 PU7 BU7
              obtain ⟨p0, p1, p2, -, -, -⟩ := PU8.out.parts
              go_wp2_with fail
              refine (CE.out _).mono ?_
              rintro e w9 ⟨rfl, bk⟩
              clear p0 p1 p2
              have EU9 := Lib.hid (EU8.out.below bk)
              have PU9 := Lib.hid (PU8.out.below bk (Nat.le_refl _))
              have BU9 := Lib.hid (BU8.out.trans (bk.mono BU8.out.size))
              clear bk EU8 PU8 BU8
              obtain ⟨p0, p1, p2, -, -, -⟩ := PU9.out.parts
              go_wp2_with fail
              refine (CS.out _ (HE.out.below EU9.out.bel)).mono ?_
              rintro e w10 ⟨rfl, bk⟩
              clear p0 p1 p2
              have b10 := below_then bk (below_new w10 (.cells #[.int .i64 sa, .int .i64 sb, .int .i64 sc] 24))
              have EX := Lib.hid (EU9.out.below b10)
              have PX := Lib.hid (PU9.out.below b10 (Nat.le_refl _))
              have BX := Lib.hid (BU9.out.trans (b10.mono BU9.out.size))
              have SX := Lib.hid (dateAt_new w10 sa sb sc rfl)
              clear bk b10 EU9 PU9 BU9
              obtain ⟨p0, p1, p2, -, -, -⟩ := PX.out.parts
              go_wp2_with fail
              refine (CT.out _).mono ?_
              rintro e w11 ⟨rfl, bk⟩
              clear p0 p1 p2
              have b11 := below_then bk (below_new w11 (.cells #[.int .i64 sa, .int .i64 sb, .int .i64 sc] 24))
              have RX := Lib.hid (show RS P w10.heap.size w11.heap.size a b c' sa sb sc W (w11.alloc (.cells #[.int .i64 sa, .int .i64 sb, .int .i64 sc] 24)) from ⟨PX.out.below b11 (Nat.le_refl _), SX.out.below b11 (Nat.le_refl _), dateAt_new w11 sa sb sc rfl, HE.out.below (below_then EX.out.bel b11), BX.out.trans (b11.mono BX.out.size)⟩)
              clear bk b11 EX PX BX SX
              go_wp2_with fail
              generalize w11.alloc (.cells #[.int .i64 sa, .int .i64 sb, .int .i64 sc] 24) = V2 at *
              generalize w10.heap.size = s1 at *
              generalize w11.heap.size = s2 at *
              have hst := RX.out.drew
              obtain ⟨p0, p1, p2, q0, q1, q2, r0, r1, r2⟩ := RX.out.cells
              go_region_held3 (fun w' => w'.cell? ⟨P, 0, none⟩ = some (.int .i64 a) ∧ w'.cell? ⟨P, 1, none⟩ = some (.int .i64 b) ∧ w'.cell? ⟨P, 2, none⟩ = some (.int .i64 c') ∧ w'.cell? ⟨s1, 0, none⟩ = some (.int .i64 sa) ∧ w'.cell? ⟨s1, 1, none⟩ = some (.int .i64 sb) ∧ w'.cell? ⟨s1, 2, none⟩ = some (.int .i64 sc) ∧ w'.cell? ⟨s2, 0, none⟩ = some (.int .i64 sa) ∧ w'.cell? ⟨s2, 1, none⟩ = some (.int .i64 sb) ∧ w'.cell? ⟨s2, 2, none⟩ = some (.int .i64 sc))
                (first | go_keep | exact hst.cells)
                (first
                  | (go_at_call 22
                     refine (CV.out _ hst.env).mono ?_
                     rintro e u ⟨rfl, bu⟩
                     have hst := hst.below bu)
                  | (go_at_call 23
                     refine (CW.out _).mono ?_
                     rintro e u ⟨rfl, bu⟩
                     have hst := hst.below bu))
              rename_i hHeld
              clear hHeld p0 p1 p2 q0 q1 q2 r0 r1 r2
              have BZ := Lib.hid hst.bel
              clear hst
              go_wp2_with fail
              exact ⟨⟨k + 1, by omega, by go_num, BZ.out⟩, by simp [intOf]; omega⟩
        · have TS0 := Lib.hid (show TS w5.heap.size g y m d w wr from ⟨(ES7.out.below hb).one, (ES7.out.below hb).deck, (ES7.out.below hb).bel⟩)
          clear hb HX ES7
          have hqg : w5.heap.size ≠ g := by omega
          clear hS7
          go_wp2_with fail
          generalize w5.heap.size = q at *
          have hst := TS0.out.drew
          obtain ⟨p0, p1, p2⟩ := TS0.out.cells
          have hy9 : 0 ≤ y ∧ y ≤ 9999 := ⟨by omega, by omega⟩
          have hm9 : 0 ≤ m ∧ m ≤ 99 := ⟨by omega, by omega⟩
          have hd9 : 0 ≤ d ∧ d ≤ 99 := ⟨by omega, by omega⟩
          have i1 : (1 : Int) ≤ 3 := by omega
          have i2 : (3 : Int) ≤ 1000000 := by omega
          go_region_held3 (fun w' => w'.cell? ⟨q, 0, none⟩ = some (.int .i64 y) ∧ w'.cell? ⟨q, 1, none⟩ = some (.int .i64 m) ∧ w'.cell? ⟨q, 2, none⟩ = some (.int .i64 d))
            (first | go_keep | exact hst.cells)
            (first
              | (go_at_call 25
                 refine (Next_any g _ hst.deck 3 i1 i2).mono ?_
                 rintro e u ⟨f, rfl, hff, hdk, hgr⟩
                 have hst := hst.grown hdk hgr hqg hgw)
              | (go_at_call 24
                 refine (Written_any y m d _ _ hy9 hm9 hd9 hff).mono ?_
                 rintro e u ⟨rfl, bu⟩
                 have hst := hst.below bu))
          rename_i hHeld
          clear hHeld p0 p1 p2
          have hsz10 := writ_size f y m d
          generalize writB f y m d = S at *
          have US0 := Lib.hid (show US g w _ from ⟨hst.deck, hst.bel⟩)
          clear hst TS0 hff
          go_wp2_with fail
          have hst := US0.out.drew
          have j1 : (1 : Int) ≤ 11 := by omega
          have j2 : (11 : Int) ≤ 1000 := by omega
          have l1 : pickL ≠ [] := by decide
          have l2 : pickL.length ≤ 1000 := by decide
          go_region_held3 (fun _ => True)
            (first | go_keep | trivial)
            (first
              | (go_at_call 26
                 refine (Mod_any z 11 _ j1 j2).mono ?_
                 rintro e u1 ⟨rr, rfl, ⟨hr0, hr1⟩, -, rfl⟩
                 obtain ⟨rn, rfl⟩ := Int.eq_ofNat_of_zero_le hr0
                 have hrn : rn ≤ 10 := by omega
                 have hr2 : (rn : Int) ≤ 10 := by omega
                 clear hr1)
              | (go_at_call 27
                 refine (Pick_lit g _ pickL hst.deck l1 l2).mono ?_
                 rintro e u2 ⟨sp, hsp, rfl, hdk2, hgr2⟩
                 have hst := hst.grown hdk2 hgr2 hgw))
          all_goals
            rename_i hHeld
            clear hHeld
            have hps := pick_size sp hsp
            have hx : ∀ k, k < 5 → ∃ x : ByteArray, x.size ≤ 200 ∧ (u2.alloc (.cells #[.string s, .string S, .string (S.extract 0 rn), .string (S ++ ⟨#[48]⟩), .string sp] 9)).cell? ⟨u2.heap.size, k, none⟩ = some (.string x) := by
              intro k hk
              have h := heap_alloc_new u2 (.cells #[.string s, .string S, .string (S.extract 0 rn), .string (S ++ ⟨#[48]⟩), .string sp] 9)
              match k, hk with
              | 0, _ => exact ⟨s, hsz, by rw [cell_of_row _ _ _ _ _ _ h]; rfl⟩
              | 1, _ => exact ⟨S, by omega, by rw [cell_of_row _ _ _ _ _ _ h]; rfl⟩
              | 2, _ => exact ⟨S.extract 0 rn, by rw [extract_size S 0 rn (by omega)]; omega, by rw [cell_of_row _ _ _ _ _ _ h]; rfl⟩
              | 3, _ => exact ⟨S ++ ⟨#[48]⟩, by rw [size_add, hsz10]; decide, by rw [cell_of_row _ _ _ _ _ _ h]; rfl⟩
              | 4, _ => exact ⟨sp, by omega, by rw [cell_of_row _ _ _ _ _ _ h]; rfl⟩
            have HX := Lib.hid hx
            clear hx hps
            have US1 := Lib.hid (hst.below (below_new u2 (.cells #[.string s, .string S, .string (S.extract 0 rn), .string (S ++ ⟨#[48]⟩), .string sp] 9)))
            have hQY : u2.heap.size < (u2.alloc (.cells #[.string s, .string S, .string (S.extract 0 rn), .string (S ++ ⟨#[48]⟩), .string sp] 9)).heap.size := by simp
            clear hst hr0 hr2 hrn US0 hsz10 hdk2 hgr2 hdk hgr
            go_wp2_with fail
            generalize (u2.alloc (.cells #[.string s, .string S, .string (S.extract 0 rn), .string (S ++ ⟨#[48]⟩), .string sp] 9)) = Y at *
            generalize u2.heap.size = Q at *
            go_loopw [192] (fun i wr => ∃ k : Nat, k ≤ 5 ∧ i = .int .i64 k ∧ Below Y.heap.size Y wr) (fun i _ => 5 - (intOf i).toNat)
            case atStart => exact ⟨0, by omega, rfl, Below.refl _ _⟩
            case round =>
              obtain ⟨k, hk, rfl, hb⟩ := hrel
              by_cases hlt : k < 5
              · have t0 : decide ((k : Int) < 5) = true := by simp; omega
                obtain ⟨x, hxs, e0⟩ := HX.out k hlt
                have e0 := (hb.cell (p := ⟨Q, k, none⟩) hQY).trans e0
                have hmx : x.size ≤ maxLen := Nat.le_trans hxs (by decide)
                have BR := Lib.hid hb
                have ER := Lib.hid (HE.out.below (US1.out.below hb).bel)
                clear hb
                obtain ⟨pa, pb, pc, pe, hps⟩ := ps_shape x
                obtain ⟨ra, rb, rc, re, hrs⟩ := rd_shape x
                have C1 := Lib.hid (fun W hW => Parse_any x W hW hmx)
                have C2 := Lib.hid (fun W => rParse_any x W hmx)
                have C3 := Lib.hid (fun W hW => Read_any x W hW hmx)
                have C4 := Lib.hid (fun W => rRead_any x W hmx)
                rw [hps] at C1 C2
                rw [hrs] at C3 C4
                clear hps hrs
                unfold dateV at C1 C2 C3 C4
                go_wp2_with fail
                refine (C1.out _ ER.out).mono ?_
                rintro e v1 ⟨rfl, bk⟩
                have b1 := below_then bk (below_new v1 (.cells #[.int .i64 pa, .int .i64 pb, .int .i64 pc] 24))
                have E1 := Lib.hid (ER.out.below b1)
                have B1 := Lib.hid (BR.out.trans (b1.mono BR.out.size))
                have D1 := Lib.hid (dateAt_new v1 pa pb pc rfl)
                clear bk b1 ER BR e0
                go_wp2_with fail
                refine (C2.out _).mono ?_
                rintro e v2 ⟨rfl, bk⟩
                have b1 := below_then bk (below_new v2 (.cells #[.int .i64 pa, .int .i64 pb, .int .i64 pc] 24))
                have E2 := Lib.hid (E1.out.below b1)
                have B2 := Lib.hid (B1.out.trans (b1.mono B1.out.size))
                have D1 := Lib.hid (D1.out.below b1 (Nat.le_refl _))
                have D2 := Lib.hid (dateAt_new v2 pa pb pc rfl)
                clear bk b1 E1 B1
                go_wp2_with fail
                refine (C3.out _ E2.out).mono ?_
                rintro e v3 ⟨rfl, bk⟩
                have b1 := below_then bk (below_new v3 (.cells #[.int .i64 ra, .int .i64 rb, .int .i64 rc] 24))
                have B3 := Lib.hid (B2.out.trans (b1.mono B2.out.size))
                have D1 := Lib.hid (D1.out.below b1 (Nat.le_refl _))
                have D2 := Lib.hid (D2.out.below b1 (Nat.le_refl _))
                have D3 := Lib.hid (dateAt_new v3 ra rb rc rfl)
                clear bk b1 E2 B2
                go_wp2_with fail
                refine (C4.out _).mono ?_
                rintro e v4 ⟨rfl, bk⟩
                have b1 := below_then bk (below_new v4 (.cells #[.int .i64 ra, .int .i64 rb, .int .i64 rc] 24))
                have B4 := Lib.hid (B3.out.trans (b1.mono B3.out.size))
                obtain ⟨p0, p1, p2, -, -, -⟩ := (D1.out.below b1 (Nat.le_refl _)).parts
                obtain ⟨q0, q1, q2, -, -, -⟩ := (D2.out.below b1 (Nat.le_refl _)).parts
                obtain ⟨r0, r1, r2, -, -, -⟩ := (D3.out.below b1 (Nat.le_refl _)).parts
                clear bk b1 B3
                go_wp2_with fail
                exact ⟨⟨k + 1, by omega, by go_num, B4.out⟩, by simp [intOf]; omega⟩
              · have US2 := Lib.hid (US1.out.below hb)
                clear hb HX US1 hQY
                go_wp2_with fail
                refine (Next_any g _ US2.out.deck 200000 (by omega) (by omega)).mono ?_
                rintro e u3 ⟨x, rfl, ⟨hx0, hx1⟩, hdk3, hgr3⟩
                have US3 := Lib.hid (US2.out.grown hdk3 hgr3 hgw)
                clear hdk3 hgr3 US2
                have hx : ∀ k, k < 2 → ∃ v : Int, (-9223372036854775808 ≤ v ∧ v ≤ 9223372036854775807) ∧ (u3.alloc (.cells #[.int .i64 z, .int .i64 (x - 20000)] 3)).cell? ⟨u3.heap.size, k, none⟩ = some (.int .i64 v) := by
                  intro k hk
                  have h := heap_alloc_new u3 (.cells #[.int .i64 z, .int .i64 (x - 20000)] 3)
                  match k, hk with
                  | 0, _ => exact ⟨z, ⟨hz0, hz1⟩, by rw [cell_of_row _ _ _ _ _ _ h]; rfl⟩
                  | 1, _ => exact ⟨x - 20000, ⟨by omega, by omega⟩, by rw [cell_of_row _ _ _ _ _ _ h]; rfl⟩
                have HX := Lib.hid hx
                clear hx
                have US4 := Lib.hid (US3.out.below (below_new u3 (.cells #[.int .i64 z, .int .i64 (x - 20000)] 3)))
                have hQZ : u3.heap.size < (u3.alloc (.cells #[.int .i64 z, .int .i64 (x - 20000)] 3)).heap.size := by simp
                clear US3
                go_wp2_with fail
                generalize (u3.alloc (.cells #[.int .i64 z, .int .i64 (x - 20000)] 3)) = Z at *
                generalize u3.heap.size = R at *
                go_loopw [241] (fun i wr => ∃ k : Nat, k ≤ 2 ∧ i = .int .i64 k ∧ Below Z.heap.size Z wr) (fun i _ => 2 - (intOf i).toNat)
                case atStart => exact ⟨0, by omega, rfl, Below.refl _ _⟩
                case round =>
                  obtain ⟨k, hk, rfl, hb⟩ := hrel
                  by_cases hlt : k < 2
                  · have t0 : decide ((k : Int) < 2) = true := by simp; omega
                    obtain ⟨v, ⟨hv0, hv1⟩, e0⟩ := HX.out k hlt
                    have e0 := (hb.cell (p := ⟨R, k, none⟩) hQZ).trans e0
                    have BR := Lib.hid hb
                    have ER := Lib.hid (HE.out.below (US4.out.below hb).bel)
                    clear hb
                    go_wp2_with fail
                    refine (FromDay_any v _ ER.out hv0 hv1).mono ?_
                    rintro e v1 ⟨r, rfl, hr, bk⟩
                    obtain ⟨pa, pb, pc, pe, rfl⟩ := from_shape hr
                    have HR := Lib.hid hr
                    have b1 := below_then bk (below_new v1 (.cells #[.int .i64 pa, .int .i64 pb, .int .i64 pc] 24))
                    have B1 := Lib.hid (BR.out.trans (b1.mono BR.out.size))
                    have D1 := Lib.hid (dateAt_new v1 pa pb pc rfl)
                    clear bk b1 ER BR e0 hr
                    unfold dateV
                    go_wp2_with fail
                    refine (rFromDay_any v _ hv0 hv1).mono ?_
                    rintro e v2 ⟨r, rfl, hr, bk⟩
                    obtain rfl := from_same hr HR.out
                    have b1 := below_then bk (below_new v2 (.cells #[.int .i64 pa, .int .i64 pb, .int .i64 pc] 24))
                    have B2 := Lib.hid (B1.out.trans (b1.mono B1.out.size))
                    obtain ⟨p0, p1, p2, -, -, -⟩ := (D1.out.below b1 (Nat.le_refl _)).parts
                    clear bk b1 B1 hr HR
                    unfold dateV
                    go_wp2_with fail
                    exact ⟨⟨k + 1, by omega, by go_num, B2.out⟩, by simp [intOf]; omega⟩
                  · have B2 := Lib.hid (US4.out.below hb).bel
                    clear hb
                    go_wp2
                    go_ret
                    exact ⟨rfl, B2.out⟩
    · have hd : decide (s.size ≤ 200) = false := by simp; omega
      rw [hd]
      clear hd
      go_wp2_with fail
      refine (awake3_any _ (HE.out.below B2.out)).mono ?_
      rintro e w3 ⟨rfl, b2⟩
      go_wp2
      go_ret
      exact ⟨rfl, below_then B2.out b2⟩
  · have hd : decide (n ≤ 400) = false := by simp; omega
    rw [hd]
    clear hd
    go_wp2_with fail
    refine (awake3_any w1 (HE.out.below B1.out)).mono ?_
    rintro e w2 ⟨rfl, b2⟩
    go_wp2
    go_ret
    exact ⟨rfl, below_then B1.out b2⟩
end Go.Proofs.YtlgnppfompeghaaDoor
