/- The walk of NameExact. -/
import Derived.Test.YtfdlmneahanboaaDoorNameLaws5
namespace Go.Proofs.YtfdlmneahanboaaDoor
open Go.RowKit
set_option linter.unusedVariables false

def shortB (xs : List ByteArray) : Bool := xs.all fun x => decide (x.size ≤ 200)

set_option maxHeartbeats 1000000 in
theorem Short_any (B : Nat) (v : Value) (xs : List ByteArray) (w : World) (h : IsTexts B w v xs) :
    Calls Tryd.prog 11 #[v] w fun e w' => e = .returned (.bool (shortB xs)) ∧ w = w' := by
  by_cases hne : xs = []
  · subst hne
    obtain ⟨a, c, rfl⟩ := h.nil_
    clear h
    go_enter Tryd.func11, Tryd.ntmps11
    go_wp2
    go_loop [3] (fun i => i = .int .i64 0) (fun _ => 0)
    case atStart => rfl
    case round =>
      obtain rfl := hrel
      go_wp2
      go_ret
      exact ⟨rfl, rfl⟩
  · obtain ⟨b, o, c, rfl, h1, h2, hlt, hc⟩ := h.at_ hne
    have HC := Lib.hid hc
    clear hc h
    unfold maxLen at h2
    go_enter Tryd.func11, Tryd.ntmps11
    go_wp2
    go_loop [3] (fun i => ∃ (k : Nat), k ≤ xs.length ∧ i = .int .i64 k ∧ shortB (xs.drop k) = shortB xs) (fun i => xs.length - (intOf i).toNat)
    case atStart => exact ⟨0, by omega, rfl, rfl⟩
    case round =>
      obtain ⟨k, hk, rfl, hacc⟩ := hrel
      have HA := Lib.hid hacc
      clear hacc
      by_cases hlt : k < xs.length
      · have hc := HC.out k hlt
        have HS := Lib.hid (show shortB (xs.drop k) = (decide (xs[k].size ≤ 200) && shortB (xs.drop (k + 1))) by
          rw [List.drop_eq_getElem_cons hlt]; rfl)
        by_cases hz : xs[k].size ≤ 200
        · have hzi : ¬ (200 : Int) < (xs[k].size : Int) := by omega
          go_wp2
          refine ⟨⟨k + 1, by omega, by go_num, ?_⟩, by simp [intOf]; omega⟩
          rw [← HA.out, HS.out]
          simp [hz]
        · have hzi : (200 : Int) < (xs[k].size : Int) := by omega
          go_wp2
          go_ret
          refine ⟨ret_bool ?_, rfl⟩
          rw [← HA.out, HS.out]
          simp [hz]
      · go_wp2
        go_ret
        refine ⟨ret_bool ?_, rfl⟩
        rw [← HA.out, List.drop_eq_nil_of_le (by omega)]
        rfl

/-- What is known of rules in a box, in a world behind w. -/
structure StR (w : World) (B p : Nat) (tv nv sv : Value) (r : RL) (V : World) : Prop where
  env : Env V
  rules : IsRules B V (.agg #[tv, nv, sv]) r
  box : Box V p tv nv sv
  le : B ≤ V.heap.size
  lt : p < V.heap.size
  under : Below w.heap.size w V
theorem StR.below {w : World} {B p : Nat} {tv nv sv : Value} {r : RL} {V V' : World} (h : StR w B p tv nv sv r V) (hb : Below V.heap.size V V') : StR w B p tv nv sv r V' :=
  ⟨h.env.below hb h.env.size, h.rules.keep (hb.mono h.le), h.box.below hb h.lt, Nat.le_trans h.le hb.size, Nat.lt_of_lt_of_le h.lt hb.size, h.under.trans (hb.mono h.under.size)⟩
theorem StR.grown {w : World} {B p g : Nat} {tv nv sv : Value} {r : RL} {V V' : World} (h : StR w B p tv nv sv r V) (hd : Deck g V) (hg : V.grownBy V' (some g)) (hpg : p ≠ g) (hgw : w.heap.size ≤ g) (h4 : 4 ≤ w.heap.size) : StR w B p tv nv sv r V' :=
  ⟨h.env.below (below_of_grown (B := 4) hg (by omega) h.env.size) (Nat.le_refl _), h.rules.grown hd hg h.le, h.box.grown hg h.lt hpg, Nat.le_trans h.le hg.size, Nat.lt_of_lt_of_le h.lt hg.size, h.under.trans (below_of_grown hg hgw h.under.size)⟩
theorem StR.drew {w : World} {B p : Nat} {tv nv sv : Value} {r : RL} {V : World} (h : StR w B p tv nv sv r V) : StR w B p tv nv sv r V.drew :=
  h.below (below_drew (Below.refl _ _))
theorem norm_small (r : RL) (s : ByteArray) {x : ByteArray} {c : Int} (h : normVal r s = (x, c)) : x.size ≤ 64 := by
  rcases norm_cases r s with ⟨c', hc', he⟩ | ⟨he, -, -, -, -, hz⟩
  · rw [h] at he
    obtain ⟨rfl, rfl⟩ := Prod.mk.inj he
    decide
  · rw [h] at he
    obtain ⟨rfl, rfl⟩ := Prod.mk.inj he
    exact hz

set_option maxRecDepth 100000 in
set_option maxHeartbeats 8000000 in
theorem NameExact_walk (A : Option Addr) (n c : Nat) (rv : Value) (raw : RL) (s token : ByteArray) (w : World) (hE : Env w) (hI : IntsArg w A n c) (hR : IsRules w.heap.size w rv raw) (hs : s.size ≤ maxLen) (ht : token.size ≤ maxLen) :
    Calls Tryd.prog 3 #[.slice A n c, rv, .string s, .string token] w fun e w' => e = .returned (.bool true) ∧ Below w.heap.size w w' := by
  have HR0 := Lib.hid hR
  obtain ⟨_, _, _, rfl, ⟨ta, tc, rfl, t1, t2, -⟩, ⟨na, nc, rfl, n1, n2, -⟩, ⟨ua, uc, rfl, s1, s2, -⟩⟩ := hR
  have HE := Lib.hid hE
  have HI := Lib.hid hI
  clear hE hI
  unfold maxLen at hs ht t2 n2 s2
  have b0 : Below w.heap.size w (w.alloc (.cells #[.slice ta raw.titles.length tc, .slice na raw.nicks.length nc, .slice ua raw.streets.length uc] 26)) := below_alloc w _
  have HE0 := Lib.hid (HE.out.below b0 HE.out.size)
  have hI0 := Lib.hid (HI.out.below b0)
  have HR := Lib.hid (HR0.out.keep b0)
  have HB := Lib.hid (Box.new w (.slice ta raw.titles.length tc) (.slice na raw.nicks.length nc) (.slice ua raw.streets.length uc))
  have hp0 : w.heap.size < (w.alloc (.cells #[.slice ta raw.titles.length tc, .slice na raw.nicks.length nc, .slice ua raw.streets.length uc] 26)).heap.size := by simp
  go_enter Tryd.func3, Tryd.ntmps3
  go_wp2_with fail
  generalize (w.alloc (.cells #[.slice ta raw.titles.length tc, .slice na raw.nicks.length nc, .slice ua raw.streets.length uc] 26)) = W at *
  refine (awake2_any W HE0.out).mono ?_
  rintro e w1 ⟨rfl, b1⟩
  have HB1 := Lib.hid (HB.out.below b1 hp0)
  have hp1 : w.heap.size < w1.heap.size := Nat.lt_of_lt_of_le hp0 b1.size
  have b1' := b0.trans (b1.mono b0.size)
  go_wp2_with fail
  refine (Few_any A n c w1 (Nat.le_trans HI.out.1 HI.out.2.1)).mono ?_
  rintro e w1' ⟨rfl, rfl⟩
  have hE1 := Lib.hid (HE.out.below b1' HE.out.size)
  have hA1 := Lib.hid (awake2_any w1 hE1.out)
  by_cases hn : n ≤ 400
  · have hd : decide (n ≤ 400) = true := by simp [hn]
    rw [hd]
    clear hd
    obtain ⟨c0, c1, c2⟩ := HB1.out
    by_cases q1 : raw.titles.length ≤ 60 ∧ raw.nicks.length ≤ 60 ∧ raw.streets.length ≤ 60
    · obtain ⟨q1, q2, q3⟩ := q1
      have q1' : ¬ (60 : Int) < (raw.titles.length : Int) := by omega
      have q2' : ¬ (60 : Int) < (raw.nicks.length : Int) := by omega
      have q3' : ¬ (60 : Int) < (raw.streets.length : Int) := by omega
      go_wp2_with fail
      refine (Short_any _ _ [s, token] _ (texts_lit w1 [s, token] (by simp [maxLen]))).mono ?_
      rintro e w2 ⟨rfl, rfl⟩
      have b2 : Below w.heap.size w (w1.alloc (.cells ([s, token].map Value.string).toArray 9)) := b1'.alloc b1'.size _
      have hE2 := Lib.hid (HE.out.below b2 HE.out.size)
      have HB2 := Lib.hid (HB1.out.below (below_alloc w1 (.cells ([s, token].map Value.string).toArray 9)) hp1)
      have hp2 : w.heap.size < (w1.alloc (.cells ([s, token].map Value.string).toArray 9)).heap.size := by simp; omega
      generalize w1.alloc (.cells ([s, token].map Value.string).toArray 9) = w2 at *
      clear c0 c1 c2
      cases hsh : shortB [s, token]
      · clear hsh
        go_wp2_with fail
        refine (awake2_any w2 hE2.out).mono ?_
        rintro e wz ⟨rfl, bz⟩
        go_wp2
        go_ret
        exact ⟨rfl, b2.trans (bz.mono b2.size)⟩
      · have hz : s.size ≤ 200 ∧ token.size ≤ 200 := by
          unfold shortB at hsh
          simpa using hsh
        obtain ⟨hz1, hz2⟩ := hz
        clear hsh
        go_wp2_with fail
        refine (New_any A n c w2 (HI.out.below b2)).mono ?_
        rintro e w3 ⟨rfl, hd3, b3⟩
        generalize hg : w2.heap.size = g at *
        have HG := Lib.hid hg
        clear hg
        have hgw : w.heap.size ≤ g := by rw [← HG.out]; exact b2.size
        have b3' : Below w.heap.size w w3 := b2.trans (b3.mono hgw)
        have hp3 : w.heap.size < w3.heap.size := Nat.lt_of_lt_of_le hp2 (by rw [← HG.out] at b3; rw [← HG.out]; exact b3.size)
        have HB3 := Lib.hid (HB2.out.below b3 hp2)
        have HR3 := Lib.hid (HR0.out.keep b3')
        have hpg : w.heap.size ≠ g := by omega
        generalize htv : Value.slice ta raw.titles.length tc = tv at *
        generalize hnv : Value.slice na raw.nicks.length nc = nv at *
        generalize hsv : Value.slice ua raw.streets.length uc = sv at *
        have HTV := Lib.hid htv
        have HNV := Lib.hid hnv
        have HSV := Lib.hid hsv
        clear htv hnv hsv
        go_wp2_with fail
        obtain ⟨c0, c1, c2⟩ := HB3.out
        go_region_held3 (fun w' => w'.cell? ⟨w.heap.size, 0, none⟩ = some tv ∧ w'.cell? ⟨w.heap.size, 1, none⟩ = some nv ∧ w'.cell? ⟨w.heap.size, 2, none⟩ = some sv)
          (first | go_keep | exact hS5 | exact hS4)
          (first
            | (go_at_call 13
               refine (Rules_any g _ (show Deck g w3.drew from hd3)).mono ?_
               rintro e w4 ⟨v1, r1, rfl, hrp1, hdl1, hd4, g4⟩
               have g4' : w3.grownBy w4 (some g) := drew_grown g4
               have hS4 : Box w4 w.heap.size tv nv sv := HB3.out.grown g4' hp3 hpg
               have hr1 := hrp1.plain
               obtain ⟨tv1, nv1, sv1, rfl, -, -, -⟩ := hrp1)
            | (go_at_call 14
               refine (Bent_any g w4 hd4).mono ?_
               rintro e w5 ⟨v2, r2, rfl, hr2, hd5, g5⟩
               have g5' : w3.grownBy w5 (some g) := grown_trans g4' g5
               have hS5 : Box w5 w.heap.size tv nv sv := HB3.out.grown g5' hp3 hpg
               have hr2c := hr2
               obtain ⟨tv2, nv2, sv2, rfl, -, -, -⟩ := hr2c))
        rename_i hHeld
        clear hHeld
        have b5 : Below w.heap.size w w5 := b3'.trans (below_of_grown g5' hgw b3'.size)
        have hx : ∀ k, k < 3 → ∃ tvk nvk svk rk, (w5.alloc (.cells #[tv, nv, sv, tv1, nv1, sv1, tv2, nv2, sv2] 26)).cell? ⟨w5.heap.size, k * 3, none⟩ = some tvk ∧ (w5.alloc (.cells #[tv, nv, sv, tv1, nv1, sv1, tv2, nv2, sv2] 26)).cell? ⟨w5.heap.size, k * 3 + 1, none⟩ = some nvk ∧ (w5.alloc (.cells #[tv, nv, sv, tv1, nv1, sv1, tv2, nv2, sv2] 26)).cell? ⟨w5.heap.size, k * 3 + 2, none⟩ = some svk ∧
            IsRules w5.heap.size (w5.alloc (.cells #[tv, nv, sv, tv1, nv1, sv1, tv2, nv2, sv2] 26)) (.agg #[tvk, nvk, svk]) rk := by
          intro k hk
          have hb := below_alloc w5 (.cells #[tv, nv, sv, tv1, nv1, sv1, tv2, nv2, sv2] 26)
          have h0 : IsRules w5.heap.size (w5.alloc (.cells #[tv, nv, sv, tv1, nv1, sv1, tv2, nv2, sv2] 26)) (.agg #[tv, nv, sv]) raw := ((HR0.out.keep b5).more b5.size).keep hb
          have h1 : IsRules w5.heap.size (w5.alloc (.cells #[tv, nv, sv, tv1, nv1, sv1, tv2, nv2, sv2] 26)) (.agg #[tv1, nv1, sv1]) r1 := ((hr1.grown hd4 g5 (Nat.le_refl _)).more g5.size).keep hb
          have h2 : IsRules w5.heap.size (w5.alloc (.cells #[tv, nv, sv, tv1, nv1, sv1, tv2, nv2, sv2] 26)) (.agg #[tv2, nv2, sv2]) r2 := hr2.keep hb
          match k, hk with
          | 0, _ => exact ⟨tv, nv, sv, raw, by simp, by simp, by simp, h0⟩
          | 1, _ => exact ⟨tv1, nv1, sv1, r1, by simp, by simp, by simp, h1⟩
          | 2, _ => exact ⟨tv2, nv2, sv2, r2, by simp, by simp, by simp, h2⟩
        have HX := Lib.hid hx
        have hgq : g < w5.heap.size := hd5.lt
        have hdX := hd5.alloc (.cells #[tv, nv, sv, tv1, nv1, sv1, tv2, nv2, sv2] 26)
        have b5X : Below w.heap.size w (w5.alloc (.cells #[tv, nv, sv, tv1, nv1, sv1, tv2, nv2, sv2] 26)) := b5.alloc b5.size _
        have hqX : w5.heap.size < (w5.alloc (.cells #[tv, nv, sv, tv1, nv1, sv1, tv2, nv2, sv2] 26)).heap.size := by simp
        have h4 := HE.out.size
        clear hx hr1 hr2 hS4 hS5 c0 c1 c2 g4 g5 g4' g5' hdl1
        generalize w5.alloc (.cells #[tv, nv, sv, tv1, nv1, sv1, tv2, nv2, sv2] 26) = X at *
        generalize hq : w5.heap.size = q at *
        have HQ := Lib.hid hq
        clear hq
        go_wp2
        go_loopw [60] (fun i wr => ∃ k : Nat, k ≤ 3 ∧ i = .int .i64 k ∧ Deck g wr ∧ X.grownBy wr (some g)) (fun i _ => 3 - (intOf i).toNat)
        case atStart => exact ⟨0, by omega, rfl, hdX, grown_refl _ _⟩
        case round =>
          obtain ⟨k, hk, rfl, hd, hg⟩ := hrel
          have hszr := hg.size
          have br : Below w.heap.size w wr := b5X.trans (below_of_grown hg hgw b5X.size)
          by_cases hlt : k < 3
          · obtain ⟨tvk, nvk, svk, rk, e0, e1, e2, hrk⟩ := HX.out k hlt
            have hblk : wr.heap[q]? = X.heap[q]? := hg.block q hqX (fun e => by injection e; omega)
            have c0 := (World.cell?_of_block (a := ⟨q, k * 3, none⟩) (w := X) (w' := wr) hblk).trans e0
            have c1 := (World.cell?_of_block (a := ⟨q, k * 3 + 1, none⟩) (w := X) (w' := wr) hblk).trans e1
            have c2 := (World.cell?_of_block (a := ⟨q, k * 3 + 2, none⟩) (w := X) (w' := wr) hblk).trans e2
            have hrk' := hrk.grown hdX hg (Nat.le_of_lt hqX)
            have hbV := below_alloc wr (.cells #[tvk, nvk, svk] 26)
            have hst : StR w q wr.heap.size tvk nvk svk rk (wr.alloc (.cells #[tvk, nvk, svk] 26)) :=
              ⟨(HE.out.below br HE.out.size).alloc _, hrk'.keep (hbV.mono (by omega)), Box.new wr tvk nvk svk, by simp; omega, by simp, br.trans (hbV.mono br.size)⟩
            have hdV := hd.alloc (.cells #[tvk, nvk, svk] 26)
            have hgV := grown_alloc hg (.cells #[tvk, nvk, svk] 26)
            obtain ⟨_, _, _, he, ⟨xa, xc, k1, -, -, -⟩, ⟨ya, yc, k2, -, -, -⟩, ⟨za, zc, k3, -, -, -⟩⟩ := hrk
            simp only [Value.agg.injEq, Array.mk.injEq, List.cons.injEq, and_true] at he
            obtain ⟨rfl, rfl, rfl⟩ := he
            subst k1 k2 k3
            clear e0 e1 e2 hrk' hblk
            have HST := Lib.hid hst
            clear hst
            go_wp2_with fail
            generalize wr.alloc (.cells #[.slice xa rk.titles.length xc, .slice ya rk.nicks.length yc, .slice za rk.streets.length zc] 26) = V at *
            clear c0 c1 c2
            generalize Value.slice xa rk.titles.length xc = tvk at *
            generalize Value.slice ya rk.nicks.length yc = nvk at *
            generalize Value.slice za rk.streets.length zc = svk at *
            have hPg : wr.heap.size ≠ g := by omega
            generalize wr.heap.size = P at *
            have hst := HST.out.drew
            have bt : Below V.heap.size V V.drew := below_drew (Below.refl _ _)
            obtain ⟨c0, c1, c2⟩ := HST.out.box
            go_region_held3 (fun w' => w'.cell? ⟨P, 0, none⟩ = some tvk ∧ w'.cell? ⟨P, 1, none⟩ = some nvk ∧ w'.cell? ⟨P, 2, none⟩ = some svk)
              (first | go_keep | exact hst.box)
              (first
                | (go_at_call 15
                   refine (Check_any q _ rk _ hst.rules hst.le).mono ?_
                   rintro e u ⟨rfl, bu⟩
                   have hst := hst.below bu
                   have bt := bt.trans (bu.mono bt.size))
                | (go_at_call 16
                   refine (rCheck_any q _ rk _ hst.rules hst.le).mono ?_
                   rintro e u2 ⟨rfl, bu⟩
                   have hst2 := hst.below bu
                   have bt2 := bt.trans (bu.mono bt.size)
                   have hst := hst2))
            rename_i hHeld
            clear hHeld c0 c1 c2 hst
            have HST2 := Lib.hid hst2
            have hd2 := hdV.below bt2 hdV.lt
            have hg2 := grown_below hgV bt2 hgV.size
            clear hst2
            generalize checkV rk = ck at *
            go_wp2_with fail
            refine (Text_any g u2 hd2).mono ?_
            rintro e u3 ⟨t1', rfl, ht1, hd3', g3'⟩
            go_wp2_with fail
            refine (Token_any g u3 hd3').mono ?_
            rintro e u4 ⟨t2', rfl, ht2, hd4', g4'⟩
            have ht2 := low_size ht2
            have hg34 := grown_trans g3' g4'
            have HST4 := Lib.hid (HST2.out.grown hd2 hg34 hPg hgw h4)
            have hg4 := grown_trans hg2 hg34
            have hx : ∀ k2, k2 < 4 → ∃ x : ByteArray, x.size ≤ 200 ∧ (u4.alloc (.cells #[.string s, .string token, .string t1', .string t2'] 9)).cell? ⟨u4.heap.size, k2, none⟩ = some (.string x) := by
              intro k2 hk2
              match k2, hk2 with
              | 0, _ => exact ⟨s, hz1, by simp⟩
              | 1, _ => exact ⟨token, hz2, by simp⟩
              | 2, _ => exact ⟨t1', by omega, by simp⟩
              | 3, _ => exact ⟨t2', by omega, by simp⟩
            have HX2 := Lib.hid hx
            clear hx
            have HSTY := Lib.hid (HST4.out.below (below_alloc u4 (.cells #[.string s, .string token, .string t1', .string t2'] 9)))
            have hQY : u4.heap.size < (u4.alloc (.cells #[.string s, .string token, .string t1', .string t2'] 9)).heap.size := by simp
            have hdY := hd4'.alloc (.cells #[.string s, .string token, .string t1', .string t2'] 9)
            have hgY := grown_alloc hg4 (.cells #[.string s, .string token, .string t1', .string t2'] 9)
            clear HST4 HST2 HST hd4' hd3' hd2 hdV hd g3' g4' hg34 hg2 hgV hg bt bt2
            go_wp2_with fail
            generalize (u4.alloc (.cells #[.string s, .string token, .string t1', .string t2'] 9)) = Y at *
            generalize u4.heap.size = Q at *
            go_loopw [77] (fun i wr2 => ∃ k2 : Nat, k2 ≤ 4 ∧ i = .int .i64 k2 ∧ Below Y.heap.size Y wr2) (fun i _ => 4 - (intOf i).toNat)
            case atStart => exact ⟨0, by omega, rfl, Below.refl _ _⟩
            case round =>
              obtain ⟨k2, hk2, rfl, hb2⟩ := hrel
              by_cases hlt2 : k2 < 4
              · obtain ⟨x, hxs, e0⟩ := HX2.out k2 hlt2
                have e0 := (hb2.cell (p := ⟨Q, k2, none⟩) hQY).trans e0
                have hst := HSTY.out.below hb2
                obtain ⟨c0, c1, c2⟩ := hst.box
                obtain ⟨a, ec, hac⟩ : ∃ a ec, normVal rk x = (a, ec) := ⟨_, _, rfl⟩
                have ha := norm_small rk x hac
                have hmx : x.size ≤ maxLen := Nat.le_trans hxs (by decide)
                have hma : a.size ≤ maxLen := Nat.le_trans ha (by decide)
                go_wp2_with fail
                have HC := Normalise_any q _ rk x _ hst.env hst.rules hst.le hmx
                rw [hac] at HC
                unfold normRet at HC
                refine HC.mono ?_
                rintro e u5 ⟨rfl, b5⟩
                have hst := hst.below b5
                have hb5 := hb2.trans (b5.mono hb2.size)
                clear HC c0 c1 c2
                obtain ⟨c0, c1, c2⟩ := hst.box
                go_wp2_with fail
                have HC := rNormalise_any q _ rk x _ hst.rules hst.le hmx
                rw [hac] at HC
                unfold normRet at HC
                refine HC.mono ?_
                rintro e u6 ⟨rfl, b6⟩
                have HSTU := Lib.hid (hst.below b6)
                have hb6 := Lib.hid (hb5.trans (b6.mono hb5.size))
                clear HC c0 c1 c2 hst b5 hb5 b6
                go_wp2_with fail
                have hst := HSTU.out.drew
                have bt : Below u6.heap.size u6 u6.drew := below_drew (Below.refl _ _)
                obtain ⟨c0, c1, c2⟩ := HSTU.out.box
                go_region_held3 (fun w' => w'.cell? ⟨P, 0, none⟩ = some tvk ∧ w'.cell? ⟨P, 1, none⟩ = some nvk ∧ w'.cell? ⟨P, 2, none⟩ = some svk)
                  (first | go_keep | exact hst.box)
                  (first
                    | (go_at_call 21
                       refine (Normal_any q _ rk _ _ hst.env hst.rules hst.le (by assumption)).mono ?_
                       rintro e u ⟨rfl, bu⟩
                       have hst := hst.below bu
                       have bt := bt.trans (bu.mono bt.size))
                    | (go_at_call 22
                       refine (rNormal_any q _ rk _ _ hst.rules hst.le (by assumption)).mono ?_
                       rintro e u ⟨rfl, bu⟩
                       have hst := hst.below bu
                       have bt := bt.trans (bu.mono bt.size))
                    | (go_at_call 23
                       refine (Canonical_any q _ rk _ _ hst.rules hst.le).mono ?_
                       rintro e u ⟨rfl, bu⟩
                       have hst := hst.below bu
                       have bt := bt.trans (bu.mono bt.size))
                    | (go_at_call 24
                       refine (rCanonical_any q _ rk _ _ hst.rules hst.le).mono ?_
                       rintro e u ⟨rfl, bu⟩
                       have hst := hst.below bu
                       have bt := bt.trans (bu.mono bt.size))
                    | (go_at_call 25
                       refine (Dropped_any q _ rk _ _ hst.rules hst.le).mono ?_
                       rintro e u ⟨rfl, bu⟩
                       have hst := hst.below bu
                       have bt := bt.trans (bu.mono bt.size))
                    | (go_at_call 26
                       refine (rDropped_any q _ rk _ _ hst.rules hst.le).mono ?_
                       rintro e u ⟨rfl, bu⟩
                       have hst := hst.below bu
                       have bt := bt.trans (bu.mono bt.size)))
                rename_i hHeld
                have hbU := hb6.out.trans (bt.mono hb6.out.size)
                clear hHeld c0 c1 c2 hst bt
                go_wp2_with fail
                exact ⟨⟨k2 + 1, by omega, by go_num, hbU⟩, by simp [intOf]; omega⟩
              · go_wp2_with fail
                exact ⟨⟨k + 1, by omega, by go_num, hdY.below hb2 hdY.lt, grown_below hgY hb2 hgY.size⟩, by simp [intOf]; omega⟩
          · go_wp2
            go_ret
            exact ⟨rfl, br⟩
    · go_wp2_with (go_at_call 9; refine hA1.out.mono ?_; rintro e wz ⟨rfl, bz⟩)
      all_goals first
        | (go_ret; exact ⟨rfl, b1'.trans (bz.mono b1'.size)⟩)
        | (exfalso; omega)
  · have hd : decide (n ≤ 400) = false := by simp; omega
    rw [hd]
    clear hd
    go_wp2_with fail
    refine hA1.out.mono ?_
    rintro e w2 ⟨rfl, b2⟩
    go_wp2
    go_ret
    exact ⟨rfl, b1'.trans (b2.mono b1'.size)⟩
end Go.Proofs.YtfdlmneahanboaaDoor
