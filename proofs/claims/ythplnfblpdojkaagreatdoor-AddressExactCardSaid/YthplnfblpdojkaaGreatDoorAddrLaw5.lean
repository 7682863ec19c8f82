/- AddressExact. -/
import Derived.Test.YthplnfblpdojkaaGreatDoorAddrRef3
import Derived.Test.YthplnfblpdojkaaGreatDoorAddrLaw4
import Derived.Test.YthplnfblpdojkaaGreatDoorNameLaws6
namespace Go.Proofs.YthplnfblpdojkaaGreatDoor
open Go.RowKit
set_option linter.unusedVariables false
set_option maxRecDepth 100000

def exL : List ByteArray := [⟨#[48, 48, 48]⟩, ⟨#[48, 48, 98]⟩, ⟨#[48, 48, 55, 98]⟩, ⟨#[48]⟩, ⟨#[49, 48, 32, 48, 32, 50, 48]⟩, ⟨#[97, 49]⟩]
theorem ex_size : ∀ x ∈ exL, x.size ≤ 7 := by decide

set_option maxHeartbeats 16000000 in
theorem AddressExact_walk (A : Option Addr) (n c : Nat) (rv : Value) (raw : RL) (s t : ByteArray) (w : World) (hE : Env w) (hI : IntsArg w A n c) (hR : IsRules w.heap.size w rv raw) (hs : s.size ≤ maxLen) (ht : t.size ≤ maxLen) :
    Calls Tryz.prog 3 #[.slice A n c, rv, .string s, .string t] w fun e w' => e = .returned (.bool true) ∧ Below w.heap.size w w' := by
  have HR0 := Lib.hid hR
  obtain ⟨_, _, _, rfl, ⟨ta, tc, rfl, t1, t2, -⟩, ⟨na, nc, rfl, n1, n2, -⟩, ⟨ua, uc, rfl, s1, s2, -⟩⟩ := hR
  have HE := Lib.hid hE
  have HI := Lib.hid hI
  clear hE hI
  unfold maxLen at hs ht t2 n2 s2
  have b0 : Below w.heap.size w (w.alloc (.cells #[.slice ta raw.titles.length tc, .slice na raw.nicks.length nc, .slice ua raw.streets.length uc] 26)) := below_alloc w _
  have HE0 := Lib.hid (HE.out.below b0 HE.out.size)
  have hI0 := Lib.hid (HI.out.below b0)
  have HR := Lib.hid (HR0.out.keep b0)
  have HB := Lib.hid (Box.new w (.slice ta raw.titles.length tc) (.slice na raw.nicks.length nc) (.slice ua raw.streets.length uc))
  have hp0 : w.heap.size < (w.alloc (.cells #[.slice ta raw.titles.length tc, .slice na raw.nicks.length nc, .slice ua raw.streets.length uc] 26)).heap.size := by simp
  go_enter Tryz.func3, Tryz.ntmps3
  go_wp2_with fail
  generalize (w.alloc (.cells #[.slice ta raw.titles.length tc, .slice na raw.nicks.length nc, .slice ua raw.streets.length uc] 26)) = W at *
  refine (awake4_any W HE0.out).mono ?_
  rintro e w1 ⟨rfl, b1⟩
  have HB1 := Lib.hid (HB.out.below b1 hp0)
  have hp1 : w.heap.size < w1.heap.size := Nat.lt_of_lt_of_le hp0 b1.size
  have b1' := b0.trans (b1.mono b0.size)
  go_wp2_with fail
  refine (Few_any A n c w1 (Nat.le_trans HI.out.1 HI.out.2.1)).mono ?_
  rintro e w1' ⟨rfl, rfl⟩
  have hE1 := Lib.hid (HE.out.below b1' HE.out.size)
  have hA1 := Lib.hid (awake4_any w1 hE1.out)
  by_cases hn : n ≤ 400
  · have hd : decide (n ≤ 400) = true := by simp [hn]
    rw [hd]
    clear hd
    obtain ⟨c0, c1, c2⟩ := HB1.out
    by_cases q1 : raw.titles.length ≤ 60 ∧ raw.nicks.length ≤ 60 ∧ raw.streets.length ≤ 60
    · obtain ⟨q1, q2, q3⟩ := q1
      have q1' : ¬ (60 : Int) < (raw.titles.length : Int) := by omega
      have q2' : ¬ (60 : Int) < (raw.nicks.length : Int) := by omega
      have q3' : ¬ (60 : Int) < (raw.streets.length : Int) := by omega
      go_wp2_with fail
      refine (Short_any _ _ [s, t] _ (texts_lit w1 [s, t] (by simp [maxLen]))).mono ?_
      rintro e w2 ⟨rfl, rfl⟩
      have b2 : Below w.heap.size w (w1.alloc (.cells ([s, t].map Value.string).toArray 9)) := b1'.alloc b1'.size _
      have hE2 := Lib.hid (HE.out.below b2 HE.out.size)
      have HB2 := Lib.hid (HB1.out.below (below_alloc w1 (.cells ([s, t].map Value.string).toArray 9)) hp1)
      have hp2 : w.heap.size < (w1.alloc (.cells ([s, t].map Value.string).toArray 9)).heap.size := by simp; omega
      generalize w1.alloc (.cells ([s, t].map Value.string).toArray 9) = w2 at *
      clear c0 c1 c2
      cases hsh : shortB [s, t]
      · clear hsh
        go_wp2_with fail
        refine (awake4_any w2 hE2.out).mono ?_
        rintro e wz ⟨rfl, bz⟩
        go_wp2
        go_ret
        exact ⟨rfl, b2.trans (bz.mono b2.size)⟩
      · have hz : s.size ≤ 200 ∧ t.size ≤ 200 := by
          unfold shortB at hsh
          simpa using hsh
        obtain ⟨hz1, hz2⟩ := hz
        clear hsh
        go_wp2_with fail
        refine (New_any A n c w2 (HI.out.below b2)).mono ?_
        rintro e w3 ⟨rfl, hd3, b3⟩
        generalize hg : w2.heap.size = g at *
        have HG := Lib.hid hg
        clear hg
        have hgw : w.heap.size ≤ g := by rw [← HG.out]; exact b2.size
        have b3' : Below w.heap.size w w3 := b2.trans (b3.mono hgw)
        have hp3 : w.heap.size < w3.heap.size := Nat.lt_of_lt_of_le hp2 (by rw [← HG.out] at b3; rw [← HG.out]; exact b3.size)
        have HB3 := Lib.hid (HB2.out.below b3 hp2)
        have hpg : w.heap.size ≠ g := by omega
        have h4 := HE.out.size
        generalize htv : Value.slice ta raw.titles.length tc = tv at *
        generalize hnv : Value.slice na raw.nicks.length nc = nv at *
        generalize hsv : Value.slice ua raw.streets.length uc = sv at *
        have HTV := Lib.hid htv
        have HNV := Lib.hid hnv
        have HSV := Lib.hid hsv
        clear htv hnv hsv
        go_wp2_with fail
        refine (Text_any g w3 hd3).mono ?_
        rintro e u1 ⟨t1', rfl, hz3, hd4, g4⟩
        go_wp2_with fail
        refine (RawAddress_any g u1 hd4).mono ?_
        rintro e u2 ⟨t2', rfl, hz4, hd5, g5⟩
        have g5' := grown_trans g4 g5
        go_wp2_with fail
        refine (Pick_lit g u2 exL hd5 (by decide) (by decide)).mono ?_
        rintro e u3 ⟨t3', ht3, rfl, hd6, g6⟩
        have hz5 := ex_size t3' ht3
        have g6' := grown_trans g5' g6
        clear ht3
        have hx : ∀ k, k < 5 → ∃ x : ByteArray, x.size ≤ 200 ∧ (u3.alloc (.cells #[.string s, .string t, .string t1', .string t2', .string t3'] 9)).cell? ⟨u3.heap.size, k, none⟩ = some (.string x) := by
          intro k hk
          match k, hk with
          | 0, _ => exact ⟨s, hz1, by simp⟩
          | 1, _ => exact ⟨t, hz2, by simp⟩
          | 2, _ => exact ⟨t1', by omega, by simp⟩
          | 3, _ => exact ⟨t2', by omega, by simp⟩
          | 4, _ => exact ⟨t3', by omega, by simp⟩
        have HX := Lib.hid hx
        clear hx
        have hdX := hd6.alloc (.cells #[.string s, .string t, .string t1', .string t2', .string t3'] 9)
        have b6 : Below w.heap.size w u3 := b3'.trans (below_of_grown g6' hgw b3'.size)
        have b6X : Below w.heap.size w (u3.alloc (.cells #[.string s, .string t, .string t1', .string t2', .string t3'] 9)) := b6.alloc b6.size _
        have HBX := Lib.hid ((HB3.out.grown g6' hp3 hpg).below (below_alloc u3 (.cells #[.string s, .string t, .string t1', .string t2', .string t3'] 9)) (Nat.lt_of_lt_of_le hp3 g6'.size))
        have hQX : u3.heap.size < (u3.alloc (.cells #[.string s, .string t, .string t1', .string t2', .string t3'] 9)).heap.size := by simp
        have hQg : g < u3.heap.size := hd6.lt
        have hpX : w.heap.size < (u3.alloc (.cells #[.string s, .string t, .string t1', .string t2', .string t3'] 9)).heap.size := by have := g6'.size; simp; omega
        clear g4 g5 g5' g6 g6' hd4 hd5 hd6 hd3
        go_wp2_with fail
        generalize u3.alloc (.cells #[.string s, .string t, .string t1', .string t2', .string t3'] 9) = X at *
        generalize u3.heap.size = Q at *
        go_loopw [68] (fun i wr => ∃ k : Nat, k ≤ 5 ∧ i = .int .i64 k ∧ Deck g wr ∧ X.grownBy wr (some g)) (fun i _ => 5 - (intOf i).toNat)
        case atStart => exact ⟨0, by omega, rfl, hdX, grown_refl _ _⟩
        case round =>
          obtain ⟨k, hk, rfl, hd, hg⟩ := hrel
          have hszr := hg.size
          have br : Below w.heap.size w wr := b6X.trans (below_of_grown hg hgw b6X.size)
          by_cases hlt : k < 5
          · obtain ⟨x, hxs, e0⟩ := HX.out k hlt
            have e0 := (World.cell?_of_block (a := ⟨Q, k, none⟩) (w := X) (w' := wr) (hg.block Q hQX (fun e => by injection e; omega))).trans e0
            have HBr := Lib.hid (HBX.out.grown hg hpX hpg)
            have hpr : w.heap.size < wr.heap.size := by omega
            have hmx : x.size ≤ maxLen := Nat.le_trans hxs (by decide)
            go_wp2_with fail
            clear e0
            obtain ⟨c0, c1, c2⟩ := HBr.out
            go_region_held3 (fun w' => w'.cell? ⟨w.heap.size, 0, none⟩ = some tv ∧ w'.cell? ⟨w.heap.size, 1, none⟩ = some nv ∧ w'.cell? ⟨w.heap.size, 2, none⟩ = some sv)
              (first | go_keep | exact hS5 | exact hS4)
              (first
                | (go_at_call 11
                   refine (Rules_any g _ (show Deck g wr.drew from hd)).mono ?_
                   rintro e w4 ⟨v1, r1, rfl, hrp1, hdl1, hd4, g4⟩
                   have g4' : wr.grownBy w4 (some g) := drew_grown g4
                   have hS4 : Box w4 w.heap.size tv nv sv := HBr.out.grown g4' hpr hpg
                   have hr1 := hrp1.plain
                   obtain ⟨tv1, nv1, sv1, rfl, -, -, -⟩ := hrp1)
                | (go_at_call 12
                   refine (Bent_any g w4 hd4).mono ?_
                   rintro e w5 ⟨v2, r2, rfl, hr2, hd5, g5⟩
                   have g5' : wr.grownBy w5 (some g) := grown_trans g4' g5
                   have hS5 : Box w5 w.heap.size tv nv sv := HBr.out.grown g5' hpr hpg
                   have hr2c := hr2
                   obtain ⟨tv2, nv2, sv2, rfl, -, -, -⟩ := hr2c))
            rename_i hHeld
            clear hHeld
            have b5 : Below w.heap.size w w5 := br.trans (below_of_grown g5' hgw br.size)
            have hx : ∀ k, k < 3 → ∃ tvk nvk svk rk, (w5.alloc (.cells #[tv, nv, sv, tv1, nv1, sv1, tv2, nv2, sv2] 26)).cell? ⟨w5.heap.size, k * 3, none⟩ = some tvk ∧ (w5.alloc (.cells #[tv, nv, sv, tv1, nv1, sv1, tv2, nv2, sv2] 26)).cell? ⟨w5.heap.size, k * 3 + 1, none⟩ = some nvk ∧ (w5.alloc (.cells #[tv, nv, sv, tv1, nv1, sv1, tv2, nv2, sv2] 26)).cell? ⟨w5.heap.size, k * 3 + 2, none⟩ = some svk ∧
                IsRules w5.heap.size (w5.alloc (.cells #[tv, nv, sv, tv1, nv1, sv1, tv2, nv2, sv2] 26)) (.agg #[tvk, nvk, svk]) rk := by
              intro k hk
              have hb := below_alloc w5 (.cells #[tv, nv, sv, tv1, nv1, sv1, tv2, nv2, sv2] 26)
              have h0 : IsRules w5.heap.size (w5.alloc (.cells #[tv, nv, sv, tv1, nv1, sv1, tv2, nv2, sv2] 26)) (.agg #[tv, nv, sv]) raw := ((HR0.out.keep b5).more b5.size).keep hb
              have h1 : IsRules w5.heap.size (w5.alloc (.cells #[tv, nv, sv, tv1, nv1, sv1, tv2, nv2, sv2] 26)) (.agg #[tv1, nv1, sv1]) r1 := ((hr1.grown hd4 g5 (Nat.le_refl _)).more g5.size).keep hb
              have h2 : IsRules w5.heap.size (w5.alloc (.cells #[tv, nv, sv, tv1, nv1, sv1, tv2, nv2, sv2] 26)) (.agg #[tv2, nv2, sv2]) r2 := hr2.keep hb
              match k, hk with
              | 0, _ => exact ⟨tv, nv, sv, raw, by simp, by simp, by simp, h0⟩
              | 1, _ => exact ⟨tv1, nv1, sv1, r1, by simp, by simp, by simp, h1⟩
              | 2, _ => exact ⟨tv2, nv2, sv2, r2, by simp, by simp, by simp, h2⟩
            have HX2 := Lib.hid hx
            have hdY := hd5.alloc (.cells #[tv, nv, sv, tv1, nv1, sv1, tv2, nv2, sv2] 26)
            have hgY := grown_alloc (grown_trans hg g5') (.cells #[tv, nv, sv, tv1, nv1, sv1, tv2, nv2, sv2] 26)
            have b5Y : Below w.heap.size w (w5.alloc (.cells #[tv, nv, sv, tv1, nv1, sv1, tv2, nv2, sv2] 26)) := b5.alloc b5.size _
            have hqY : w5.heap.size < (w5.alloc (.cells #[tv, nv, sv, tv1, nv1, sv1, tv2, nv2, sv2] 26)).heap.size := by simp
            clear hx hr1 hr2 hS4 hS5 c0 c1 c2 g4 g5 g4' g5' hdl1 hd4 hd5
            generalize w5.alloc (.cells #[tv, nv, sv, tv1, nv1, sv1, tv2, nv2, sv2] 26) = Y at *
            generalize hq : w5.heap.size = q at *
            have HQ := Lib.hid hq
            clear hq
            go_wp2
            go_loopw [79] (fun i wr => ∃ k2 : Nat, k2 ≤ 3 ∧ i = .int .i64 k2 ∧ Below Y.heap.size Y wr) (fun i _ => 3 - (intOf i).toNat)
            case atStart => exact ⟨0, by omega, rfl, Below.refl _ _⟩
            case round =>
              obtain ⟨k2, hk2, rfl, hb2⟩ := hrel
              have hszr2 := hb2.size
              have br2 : Below w.heap.size w wr := b5Y.trans (hb2.mono b5Y.size)
              by_cases hlt2 : k2 < 3
              · obtain ⟨tvk, nvk, svk, rk, e0, e1, e2, hrk⟩ := HX2.out k2 hlt2
                have c0 := (hb2.cell (p := ⟨q, k2 * 3, none⟩) hqY).trans e0
                have c1 := (hb2.cell (p := ⟨q, k2 * 3 + 1, none⟩) hqY).trans e1
                have c2 := (hb2.cell (p := ⟨q, k2 * 3 + 2, none⟩) hqY).trans e2
                have hrk' := hrk.keep (hb2.mono (Nat.le_of_lt hqY))
                have hbV := below_alloc wr (.cells #[tvk, nvk, svk] 26)
                have hst : StR w q wr.heap.size tvk nvk svk rk (wr.alloc (.cells #[tvk, nvk, svk] 26)) :=
                  ⟨(HE.out.below br2 HE.out.size).alloc _, hrk'.keep (hbV.mono (by omega)), Box.new wr tvk nvk svk, by simp; omega, by simp, br2.trans (hbV.mono br2.size)⟩
                have hbV' := hb2.trans (hbV.mono hszr2)
                obtain ⟨_, _, _, he, ⟨xa, xc, k1, -, -, -⟩, ⟨ya, yc, k2', -, -, -⟩, ⟨za, zc, k3, -, -, -⟩⟩ := hrk
                simp only [Value.agg.injEq, Array.mk.injEq, List.cons.injEq, and_true] at he
                obtain ⟨rfl, rfl, rfl⟩ := he
                subst k1 k2' k3
                clear e0 e1 e2 hrk'
                have HST := Lib.hid hst
                clear hst
                obtain ⟨a, ec, hac⟩ : ∃ a ec, adrVal rk x = (a, ec) := ⟨_, _, rfl⟩
                have ha := adr_small rk x hac
                have hma : a.size ≤ maxLen := Nat.le_trans ha (by decide)
                go_wp2_with fail
                generalize wr.alloc (.cells #[.slice xa rk.titles.length xc, .slice ya rk.nicks.length yc, .slice za rk.streets.length zc] 26) = V at *
                clear c0 c1 c2
                generalize Value.slice xa rk.titles.length xc = tvk at *
                generalize Value.slice ya rk.nicks.length yc = nvk at *
                generalize Value.slice za rk.streets.length zc = svk at *
                generalize wr.heap.size = P at *
                have HC := adrNormalise_any q _ rk x _ HST.out.env HST.out.rules HST.out.le hmx
                rw [hac] at HC
                unfold normRet at HC
                refine HC.mono ?_
                rintro e u5 ⟨rfl, b5⟩
                have hst := HST.out.below b5
                have hb5 := hbV'.trans (b5.mono hbV'.size)
                clear HC
                obtain ⟨c0, c1, c2⟩ := hst.box
                go_wp2_with fail
                have HC := radrNormalise_any q _ rk x _ hst.rules hst.le hmx
                rw [hac] at HC
                unfold normRet at HC
                refine HC.mono ?_
                rintro e u6 ⟨rfl, b6⟩
                have HSTU := Lib.hid (hst.below b6)
                have hb6 := Lib.hid (hb5.trans (b6.mono hb5.size))
                clear HC c0 c1 c2 hst b5 hb5 b6 hac
                go_wp2_with fail
                have hst := HSTU.out.drew
                have bt : Below u6.heap.size u6 u6.drew := below_drew (Below.refl _ _)
                obtain ⟨c0, c1, c2⟩ := HSTU.out.box
                go_region_held3 (fun w' => w'.cell? ⟨P, 0, none⟩ = some tvk ∧ w'.cell? ⟨P, 1, none⟩ = some nvk ∧ w'.cell? ⟨P, 2, none⟩ = some svk)
                  (first | go_keep | exact hst.box)
                  (first
                    | (go_at_call 15
                       refine (adrNormal_any q _ rk _ _ hst.env hst.rules hst.le (by assumption)).mono ?_
                       rintro e u ⟨rfl, bu⟩
                       have hst := hst.below bu
                       have bt := bt.trans (bu.mono bt.size))
                    | (go_at_call 16
                       refine (radrNormal_any q _ rk _ _ hst.rules hst.le (by assumption)).mono ?_
                       rintro e u ⟨rfl, bu⟩
                       have hst := hst.below bu
                       have bt := bt.trans (bu.mono bt.size)))
                rename_i hHeld
                have hbU := hb6.out.trans (bt.mono hb6.out.size)
                clear hHeld c0 c1 c2 hst bt
                go_wp2_with fail
                exact ⟨⟨k2 + 1, by omega, by go_num, hbU⟩, by simp [intOf]; omega⟩
              · obtain ⟨a, ec, hac⟩ : ∃ a ec, codeVal x = (a, ec) := ⟨_, _, rfl⟩
                have ha := code_small x hac
                have hma : a.size ≤ maxLen := Nat.le_trans ha (by decide)
                have hC1 := Code_any x wr (HE.out.below br2 HE.out.size) hmx
                have hC2 := fun V => rCode_any x V hmx
                rw [hac] at hC1 hC2
                unfold normRet at hC1 hC2
                have HC1 := Lib.hid hC1
                have HC2 := Lib.hid hC2
                clear hC1 hC2 hac
                have HF1 := Lib.hid (fun V (h : Env V) => Normed_any x V h hmx)
                have HF2 := Lib.hid (fun V => rNormed_any x V hmx)
                have HF3 := Lib.hid (fun V (h : Env V) => Normed_any a V h hma)
                have HF4 := Lib.hid (fun V => rNormed_any a V hma)
                have HF5 := Lib.hid (fun V (h : Env V) => Number_any x V h (by omega))
                have HF6 := Lib.hid (fun V => rNumber_any x V (by omega))
                have HF7 := Lib.hid (fun V (h : Env V) => Street_any x V h (by omega))
                have HF8 := Lib.hid (fun V => rStreet_any x V (by omega))
                generalize codeB x = y1 at *
                generalize codeB a = y2 at *
                generalize numOf x = y3 at *
                generalize streetOf x = y4 at *
                go_wp2_with fail
                refine HC1.out.mono ?_
                rintro e v1 ⟨rfl, d1⟩
                have B1 := br2.trans (d1.mono br2.size)
                go_wp2_with fail
                refine (HC2.out v1).mono ?_
                rintro e v2 ⟨rfl, d2⟩
                have B2 := B1.trans (d2.mono B1.size)
                go_wp2_with fail
                refine (HF1.out v2 (HE.out.below B2 HE.out.size)).mono ?_
                rintro e v3 ⟨rfl, d3⟩
                have B3 := B2.trans (d3.mono B2.size)
                go_wp2_with fail
                refine (HF2.out v3).mono ?_
                rintro e v4 ⟨rfl, d4⟩
                have B4 := B3.trans (d4.mono B3.size)
                go_wp2_with fail
                refine (HF3.out v4 (HE.out.below B4 HE.out.size)).mono ?_
                rintro e v5 ⟨rfl, d5⟩
                have B5 := B4.trans (d5.mono B4.size)
                go_wp2_with fail
                refine (HF4.out v5).mono ?_
                rintro e v6 ⟨rfl, d6⟩
                have B6 := B5.trans (d6.mono B5.size)
                go_wp2_with fail
                refine (HF5.out v6 (HE.out.below B6 HE.out.size)).mono ?_
                rintro e v7 ⟨rfl, d7⟩
                have B7 := B6.trans (d7.mono B6.size)
                go_wp2_with fail
                refine (HF6.out v7).mono ?_
                rintro e v8 ⟨rfl, d8⟩
                have B8 := B7.trans (d8.mono B7.size)
                go_wp2_with fail
                refine (HF7.out v8 (HE.out.below B8 HE.out.size)).mono ?_
                rintro e v9 ⟨rfl, d9⟩
                have B9 := B8.trans (d9.mono B8.size)
                go_wp2_with fail
                refine (HF8.out v9).mono ?_
                rintro e v10 ⟨rfl, d10⟩
                have D : Below Y.heap.size Y v10 := by
                  have a1 := hb2.trans (d1.mono hb2.size)
                  have a2 := a1.trans (d2.mono a1.size)
                  have a3 := a2.trans (d3.mono a2.size)
                  have a4 := a3.trans (d4.mono a3.size)
                  have a5 := a4.trans (d5.mono a4.size)
                  have a6 := a5.trans (d6.mono a5.size)
                  have a7 := a6.trans (d7.mono a6.size)
                  have a8 := a7.trans (d8.mono a7.size)
                  have a9 := a8.trans (d9.mono a8.size)
                  exact a9.trans (d10.mono a9.size)
                go_wp2_with fail
                exact ⟨⟨k + 1, by omega, by go_num, hdY.below D hdY.lt, grown_below hgY D hgY.size⟩, by simp [intOf]; omega⟩
          · go_wp2
            go_ret
            exact ⟨rfl, br⟩
    · go_wp2_with (go_at_call 4; refine hA1.out.mono ?_; rintro e wz ⟨rfl, bz⟩)
      all_goals first
        | (go_ret; exact ⟨rfl, b1'.trans (bz.mono b1'.size)⟩)
        | (exfalso; omega)
  · have hd : decide (n ≤ 400) = false := by simp; omega
    rw [hd]
    clear hd
    go_wp2_with fail
    refine hA1.out.mono ?_
    rintro e w2 ⟨rfl, b2⟩
    go_wp2
    go_ret
    exact ⟨rfl, b1'.trans (b2.mono b1'.size)⟩
end Go.Proofs.YthplnfblpdojkaaGreatDoor
