/- The walk of SiphashExact. -/
import Derived.Test.YtlcfpdbiippenaaSipLaw2
import Derived.Deep.RegionHeld3
namespace Go.Proofs.Ytlcfpdbiippenaa
open Go.RowKit
set_option linter.unusedVariables false
set_option maxRecDepth 100000

theorem IsBs.pre {B m c : Nat} {w : World} {A : Option Addr} {l : List UInt8} (h : IsBs B w (.slice A l.length c) l) (hm : m ≤ l.length) : IsBs B w (.slice A m c) (l.take m) := by
  obtain ⟨a, c', hv, h1, h2, h3⟩ := h
  injection hv with e1 e2 e3
  subst e3 e1
  refine ⟨A, c, by rw [List.length_take, Nat.min_eq_left hm], by rw [List.length_take]; omega, h2, ?_⟩
  rcases h3 with h3 | ⟨b', o', ha, hlt, hc⟩
  · exact .inl (by rw [h3]; exact List.take_nil)
  · refine .inr ⟨b', o', ha, hlt, fun j x hx => hc j x ?_⟩
    rw [List.getElem?_take] at hx
    split at hx
    · exact hx
    · cases hx

theorem short_all {xs : List ByteArray} (h : shortB xs = true) : ∀ x ∈ xs, x.size ≤ 200 := by
  intro x hx
  unfold shortB at h
  have := List.all_eq_true.1 h x hx
  simpa using this

set_option maxHeartbeats 4000000 in
theorem SiphashExact_walk (A : Option Addr) (n c : Nat) (kA kB : UInt64) (vb : Value) (lb : List UInt8) (vp : Value) (ps : List ByteArray) (label : ByteArray) (w : World) (hE : PEnv w) (hI : IntsArg w A n c) (hB : IsBs w.heap.size w vb lb) (hP : IsTexts w.heap.size w vp ps) (hl : label.size ≤ maxLen) :
    Calls Try.prog 3 #[.slice A n c, keyV kA kB, vb, vp, .string label] w fun e w' => e = .returned (.bool true) ∧ Below w.heap.size w w' := by
  have HBS := Lib.hid hB
  obtain ⟨ba, bc, rfl, hb1, hb2, -⟩ := hB.cells
  have HPS := Lib.hid hP
  obtain ⟨pa, pc, rfl, hp1, hp2, -⟩ := hP
  have HE := Lib.hid hE
  have HI := Lib.hid hI
  clear hE hI hB
  unfold maxLen at hb2 hp2
  unfold keyV
  go_enter Try.func3, Try.ntmps3
  go_wp2_with fail
  obtain ⟨W0, hW0⟩ : ∃ W, W = w.alloc (.cells #[.int .u64 (n64 kA), .int .u64 (n64 kB)] 25) := ⟨_, rfl⟩
  have hk0 : W0.heap[w.heap.size]? = some (.cells #[.int .u64 (n64 kA), .int .u64 (n64 kB)] 25 (0, 0)) := by rw [hW0]; exact heap_alloc_new w _
  have b0 : Below w.heap.size w W0 := by rw [hW0]; exact (Below.refl _ w).alloc (Nat.le_refl _) _
  have hs0 : W0.heap.size = w.heap.size + 1 := by rw [hW0]; simp
  rw [← hW0]
  clear hW0
  refine (awake8_any W0 (HE.out.below b0 (Nat.le_refl _))).mono ?_
  rintro e w1 ⟨rfl, b1⟩
  have hk1 := (b1.block w.heap.size (by omega)).trans hk0
  have bw1 : Below w.heap.size w w1 := der_same b0 b1
  have hs1 : w.heap.size + 1 ≤ w1.heap.size := by have := b1.size; omega
  clear hk0 b0 b1 hs0
  have HE1 := Lib.hid (HE.out.below bw1 (Nat.le_refl _))
  go_wp2_with fail
  refine (Few_any A n c w1 (Nat.le_trans HI.out.1 HI.out.2.1)).mono ?_
  rintro e w1' ⟨rfl, rfl⟩
  by_cases hn : n ≤ 400
  · have hd : decide (n ≤ 400) = true := by simp [hn]
    rw [hd]
    clear hd
    by_cases hbl : lb.length ≤ 4000
    · have hgt : ¬ (4000 : Int) < (lb.length : Int) := by omega
      by_cases hpl : ps.length ≤ 60
      · have hgt2 : ¬ (60 : Int) < (ps.length : Int) := by omega
        go_wp2_with fail
        refine (Short_any _ _ ps _ (HPS.out.keep bw1)).mono ?_
        rintro e w2' ⟨rfl, rfl⟩
        cases hsp : shortB ps
        · clear hsp
          go_wp2_with fail
          refine (awake8_any _ HE1.out).mono ?_
          rintro e wz ⟨rfl, bz⟩
          go_wp2
          go_ret
          exact ⟨rfl, der_same bw1 bz⟩
        · have HSP := Lib.hid (short_all hsp)
          clear hsp
          go_wp2_with fail
          refine (Short_any _ _ [label] _ (texts_lit w1 [label] (by unfold maxLen; simp))).mono ?_
          rintro e w2 ⟨rfl, rfl⟩
          have bw2 : Below w.heap.size w (w1.alloc (.cells ([label].map Value.string).toArray 9)) := bw1.alloc bw1.size _
          have hk2 := (Below.heap_alloc w1 (.cells ([label].map Value.string).toArray 9) w.heap.size (by omega)).trans hk1
          have hs2 : w.heap.size + 1 ≤ (w1.alloc (.cells ([label].map Value.string).toArray 9)).heap.size := by simp; omega
          rw [short_one]
          generalize w1.alloc (.cells ([label].map Value.string).toArray 9) = w2 at *
          clear hk1 hs1
          by_cases hs : label.size ≤ 200
          · have hd : decide (label.size ≤ 200) = true := by simp [hs]
            rw [hd]
            clear hd
            go_wp2_with fail
            refine (New_any A n c w2 (HI.out.below bw2)).mono ?_
            rintro e w3 ⟨rfl, hd3, b3⟩
            have hk3 := (b3.block w.heap.size (by omega)).trans hk2
            generalize hg : w2.heap.size = g at *
            have HG := Lib.hid hg
            clear hg
            have hgw : w.heap.size + 1 ≤ g := hs2
            have bw3 : Below w.heap.size w w3 := bw2.trans (b3.mono (by omega))
            have hgl := hd3.lt
            clear b3 hk2 bw2
            have HKY := Lib.hid (fun W (h : Deck g W) => Key_any g W h)
            unfold keyV at HKY
            go_wp2_with fail
            have k0 : w3.cell? ⟨w.heap.size, 0, none⟩ = some (.int .u64 (n64 kA)) := by rw [cell_of_row _ _ _ _ _ _ hk3]; rfl
            have k1 : w3.cell? ⟨w.heap.size, 1, none⟩ = some (.int .u64 (n64 kB)) := by rw [cell_of_row _ _ _ _ _ _ hk3]; rfl
            have HK3 := Lib.hid hk3
            have HD3 := Lib.hid hd3
            clear hk3 hd3
            go_region_held3 (fun w' => w'.cell? ⟨w.heap.size, 0, none⟩ = some (.int .u64 (n64 kA)) ∧ w'.cell? ⟨w.heap.size, 1, none⟩ = some (.int .u64 (n64 kB)))
              (first | go_keep | exact hst)
              (first
                | (go_at_call 12
                   refine (HKY.out _ ?hd).mono ?_
                   case hd => exact HD3.out
                   rintro e w4 ⟨kC, kD, rfl, hd4, g4⟩
                   have hk4 := (g4.block w.heap.size (by show w.heap.size < w3.heap.size; omega) (fun e => by injection e; omega)).trans HK3.out
                   have hst : w4.cell? ⟨w.heap.size, 0, none⟩ = some (.int .u64 (n64 kA)) ∧ w4.cell? ⟨w.heap.size, 1, none⟩ = some (.int .u64 (n64 kB)) := ⟨by rw [cell_of_row _ _ _ _ _ _ hk4]; rfl, by rw [cell_of_row _ _ _ _ _ _ hk4]; rfl⟩))
            rename_i hHeld
            clear hHeld hst HKY HK3 HD3 k0 k1
            have bw4 : Below w.heap.size w w4 := bw3.drew.trans (si_below g4 (by omega) hgl)
            have bw6 : Below w.heap.size w (w4.alloc (.cells #[.int .u64 (n64 kA), .int .u64 (n64 kB), .int .u64 (n64 kC), .int .u64 (n64 kD)] 25)) := bw4.alloc bw4.size _
            have hrow := heap_alloc_new w4 (.cells #[.int .u64 (n64 kA), .int .u64 (n64 kB), .int .u64 (n64 kC), .int .u64 (n64 kD)] 25)
            have hs6 : w4.heap.size + 1 = (w4.alloc (.cells #[.int .u64 (n64 kA), .int .u64 (n64 kB), .int .u64 (n64 kC), .int .u64 (n64 kD)] 25)).heap.size := by simp
            have hY := bw4.size
            clear bw3 bw4 hd4 g4 hk4 hgl hgw HG hs2 HE1 bw1
            go_wp2_with fail
            generalize w4.alloc (.cells #[.int .u64 (n64 kA), .int .u64 (n64 kB), .int .u64 (n64 kC), .int .u64 (n64 kD)] 25) = W6 at *
            generalize w4.heap.size = Y at *
            have HROW := Lib.hid hrow
            clear hrow
            have HBW6 := Lib.hid bw6
            have hsz6 := bw6.size
            clear bw6
            go_loopw [51] (fun iv wr => ∃ j : Nat, j ≤ 2 ∧ iv = .int .i64 j ∧ Below W6.heap.size W6 wr) (fun iv _ => 2 - (intOf iv).toNat)
            case atStart => exact ⟨0, by omega, rfl, Below.refl _ _⟩
            case round =>
              obtain ⟨j, hj, rfl, hbr⟩ := hrel
              have HBR := Lib.hid hbr
              by_cases hlt : j < 2
              · have t0 : decide ((j : Int) < 2) = true := by simp; omega
                have hr := (hbr.block Y (by omega)).trans HROW.out
                obtain ⟨xA, xB, x0, x1⟩ : ∃ xA xB, wr.cell? ⟨Y, j * 2, none⟩ = some (.int .u64 (n64 xA)) ∧ wr.cell? ⟨Y, j * 2 + 1, none⟩ = some (.int .u64 (n64 xB)) := by
                  match j, hlt with
                  | 0, _ => exact ⟨kA, kB, by rw [cell_of_row _ _ _ _ _ _ hr]; rfl, by rw [cell_of_row _ _ _ _ _ _ hr]; rfl⟩
                  | 1, _ => exact ⟨kC, kD, by rw [cell_of_row _ _ _ _ _ _ hr]; rfl, by rw [cell_of_row _ _ _ _ _ _ hr]; rfl⟩
                clear hr
                have hsr := hbr.size
                clear hbr
                go_wp2_with fail
                obtain ⟨W7, hW7⟩ : ∃ W, W = wr.alloc (.cells #[.int .u64 (n64 xA), .int .u64 (n64 xB)] 25) := ⟨_, rfl⟩
                have hk7 : W7.heap[wr.heap.size]? = some (.cells #[.int .u64 (n64 xA), .int .u64 (n64 xB)] 25 (0, 0)) := by rw [hW7]; exact heap_alloc_new wr _
                have hs7 : wr.heap.size + 1 = W7.heap.size := by rw [hW7]; simp
                have hb7 : Below W6.heap.size W6 W7 := by rw [hW7]; exact HBR.out.alloc hsr _
                have HB7 := Lib.hid hb7
                have HK7 := Lib.hid hk7
                rw [← hW7]
                clear hW7 x0 x1 hb7 hk7
                generalize wr.heap.size = X at *
                go_loopw [14] (fun mv wi => ∃ m : Nat, m ≤ lb.length + 1 ∧ m ≤ 20 ∧ mv = .int .i64 m ∧ Below W7.heap.size W7 wi) (fun mv _ => 20 - (intOf mv).toNat)
                case atStart => exact ⟨0, by omega, by omega, rfl, Below.refl _ _⟩
                case round =>
                  obtain ⟨m, hm, hm2, rfl, hbi⟩ := hrel
                  have hbw : Below w.heap.size w wr := HBW6.out.trans ((HB7.out.trans (hbi.mono (by have := HB7.out.size; omega))).mono hsz6)
                  have hkr := (hbi.block X (by omega)).trans HK7.out
                  have k0 : wr.cell? ⟨X, 0, none⟩ = some (.int .u64 (n64 xA)) := by rw [cell_of_row _ _ _ _ _ _ hkr]; rfl
                  have k1 : wr.cell? ⟨X, 1, none⟩ = some (.int .u64 (n64 xB)) := by rw [cell_of_row _ _ _ _ _ _ hkr]; rfl
                  have hXr : X < wr.heap.size := World.block_lt_of_cell? _ _ k0
                  have HC := Lib.hid (fun W (h : Below wr.heap.size wr W) => show (W.cell? ⟨X, 0, none⟩ = some (.int .u64 (n64 xA)) ∧ W.cell? ⟨X, 1, none⟩ = some (.int .u64 (n64 xB))) from ⟨(h.cell (p := ⟨X, 0, none⟩) hXr).trans k0, (h.cell (p := ⟨X, 1, none⟩) hXr).trans k1⟩)
                  have HBI := Lib.hid hbi
                  have hsi := hbi.size
                  have HBW := Lib.hid hbw
                  clear hkr hbi hbw hXr
                  have hcur : Below wr.heap.size wr wr := Below.refl _ wr
                  by_cases hin : m ≤ lb.length ∧ m < 20
                  · have i1 : (m : Int) ≤ (lb.length : Int) := by omega
                    have i2 : (m : Int) < 20 := by omega
                    have i3 : (m : Int) ≤ (bc : Int) := by omega
                    have HS1 := Lib.hid (fun W (h : Below wr.heap.size wr W) => Sum_any w.heap.size xA xB _ (lb.take m) W (HE.out.below (der_same HBW.out h) (Nat.le_refl _)) ((HBS.out.pre hin.1).keep (der_same HBW.out h)) (der_same HBW.out h).size (by rw [List.length_take]; omega))
                    have HS2 := Lib.hid (fun W (h : Below wr.heap.size wr W) => rSum_any w.heap.size xA xB _ (lb.take m) W ((HBS.out.pre hin.1).keep (der_same HBW.out h)) (der_same HBW.out h).size (by rw [List.length_take]; omega))
                    generalize SM.sum xA xB (lb.take m) = P at *
                    unfold keyV at HS1 HS2
                    go_wp2_with fail
                    go_region_held3 (fun w' => w'.cell? ⟨X, 0, none⟩ = some (.int .u64 (n64 xA)) ∧ w'.cell? ⟨X, 1, none⟩ = some (.int .u64 (n64 xB)))
                      (first | go_keep | exact hst)
                      (first
                        | (have hstage := st1
                           go_at_call 14
                           refine (HS2.out _ hcur).mono ?_
                           rintro e u ⟨rfl, bu⟩
                           have hcur : Below wr.heap.size wr u := der_same hcur bu
                           have hst := HC.out u hcur
                           have hr2 := hcur)
                        | (go_at_call 13
                           refine (HS1.out _ ?gb).mono ?_
                           case gb => first | exact hcur | exact hcur.drew
                           rintro e u ⟨rfl, bu⟩
                           have hcur : Below wr.heap.size wr u := der_same (by first | exact hcur | exact hcur.drew) bu
                           have hst := HC.out u hcur
                           have st1 := trivial))
                    rename_i hHeld
                    clear hHeld HC HS1 HS2 hst
                    go_wp2
                    exact ⟨⟨m + 1, by omega, by omega, by go_num, HBI.out.trans (hr2.mono hsi)⟩, by simp [intOf]; omega⟩
                  · have HS1 := Lib.hid (fun W (h : Below wr.heap.size wr W) => Sum_any w.heap.size xA xB _ lb W (HE.out.below (der_same HBW.out h) (Nat.le_refl _)) (HBS.out.keep (der_same HBW.out h)) (der_same HBW.out h).size (by omega))
                    have HS2 := Lib.hid (fun W (h : Below wr.heap.size wr W) => rSum_any w.heap.size xA xB _ lb W (HBS.out.keep (der_same HBW.out h)) (der_same HBW.out h).size (by omega))
                    have HPZ : ∀ x ∈ ps, x.size ≤ maxLen := fun x hx => by
                      have := HSP.out x hx
                      unfold maxLen
                      omega
                    have HP1 := Lib.hid (fun W (h : Below wr.heap.size wr W) => Parts_any w.heap.size xA xB _ ps W (HE.out.below (der_same HBW.out h) (Nat.le_refl _)) (HPS.out.keep (der_same HBW.out h)) (der_same HBW.out h).size (by omega) HPZ)
                    have HP2 := Lib.hid (fun W (h : Below wr.heap.size wr W) => rParts_any w.heap.size xA xB _ ps W (HPS.out.keep (der_same HBW.out h)) (der_same HBW.out h).size (by omega) HPZ)
                    have HD1 := Lib.hid (fun W (h : Below wr.heap.size wr W) => Derive_any xA xB label W (HE.out.below (der_same HBW.out h) (Nat.le_refl _)) hl)
                    have HD2 := Lib.hid (fun W => rDerive_any xA xB label W hl)
                    unfold derV at HD1 HD2
                    clear HPZ
                    generalize SM.sum xA xB lb = P at *
                    generalize ptV xA xB ps = P2 at *
                    generalize ptV xA xB [label, ⟨#[97]⟩] = P3 at *
                    generalize ptV xA xB [label, ⟨#[98]⟩] = P4 at *
                    unfold keyV at HS1 HS2 HP1 HP2 HD1 HD2
                    have hcase : ¬ (m : Int) ≤ (lb.length : Int) ∨ ((m : Int) ≤ (lb.length : Int) ∧ ¬ (m : Int) < 20) := by omega
                    clear hin
                    rcases hcase with i1 | ⟨i1, i2⟩
                    all_goals
                      go_wp2_with fail
                      go_region_held3 (fun w' => w'.cell? ⟨X, 0, none⟩ = some (.int .u64 (n64 xA)) ∧ w'.cell? ⟨X, 1, none⟩ = some (.int .u64 (n64 xB)))
                        (first | go_keep | exact hst)
                        (first
                        | (have hstage := st5
                           go_at_call 18
                           refine (HD2.out _).mono ?_
                           rintro e u ⟨rfl, bu⟩
                           have hcur : Below wr.heap.size wr u := der_same hcur bu
                           have hst := HC.out u hcur
                           have hr6 := hcur)
                        | (have hstage := st4
                           go_at_call 17
                           refine (HD1.out _ hcur).mono ?_
                           rintro e u ⟨rfl, bu⟩
                           have hcur : Below wr.heap.size wr u := der_same hcur bu
                           have hst := HC.out u hcur
                           have st5 := trivial)
                        | (have hstage := st3
                           go_at_call 16
                           refine (HP2.out _ hcur).mono ?_
                           rintro e u ⟨rfl, bu⟩
                           have hcur : Below wr.heap.size wr u := der_same hcur bu
                           have hst := HC.out u hcur
                           have st4 := trivial)
                        | (have hstage := st2
                           go_at_call 15
                           refine (HP1.out _ hcur).mono ?_
                           rintro e u ⟨rfl, bu⟩
                           have hcur : Below wr.heap.size wr u := der_same hcur bu
                           have hst := HC.out u hcur
                           have st3 := trivial)
                        | (have hstage := st1
                           go_at_call 14
                           refine (HS2.out _ hcur).mono ?_
                           rintro e u ⟨rfl, bu⟩
                           have hcur : Below wr.heap.size wr u := der_same hcur bu
                           have hst := HC.out u hcur
                           have st2 := trivial)
                        | (go_at_call 13
                           refine (HS1.out _ ?gb).mono ?_
                           case gb => first | exact hcur | exact hcur.drew
                           rintro e u ⟨rfl, bu⟩
                           have hcur : Below wr.heap.size wr u := der_same (by first | exact hcur | exact hcur.drew) bu
                           have hst := HC.out u hcur
                           have st1 := trivial))
                      rename_i hHeld
                      clear hHeld HC HS1 HS2 HP1 HP2 HD1 HD2 hst
                      go_wp2
                      exact ⟨⟨j + 1, by omega, by go_num, HB7.out.trans ((HBI.out.trans (hr6.mono hsi)).mono (by have := HB7.out.size; omega))⟩, by simp [intOf]; omega⟩
              · obtain rfl : j = 2 := by omega
                go_wp2
                go_ret
                exact ⟨rfl, HBW6.out.trans (HBR.out.mono hsz6)⟩
          · have hd : decide (label.size ≤ 200) = false := by simp [hs]
            rw [hd]
            clear hd
            go_wp2_with fail
            refine (awake8_any w2 (HE.out.below bw2 (Nat.le_refl _))).mono ?_
            rintro e wz ⟨rfl, bz⟩
            go_wp2
            go_ret
            exact ⟨rfl, der_same bw2 bz⟩
      · have hgt2 : (60 : Int) < (ps.length : Int) := by omega
        go_wp2_with fail
        refine (awake8_any w1 HE1.out).mono ?_
        rintro e wz ⟨rfl, bz⟩
        go_wp2
        go_ret
        exact ⟨rfl, der_same bw1 bz⟩
    · have hgt : (4000 : Int) < (lb.length : Int) := by omega
      go_wp2_with fail
      refine (awake8_any w1 HE1.out).mono ?_
      rintro e wz ⟨rfl, bz⟩
      go_wp2
      go_ret
      exact ⟨rfl, der_same bw1 bz⟩
  · have hd : decide (n ≤ 400) = false := by simp [hn]
    rw [hd]
    clear hd
    go_wp2_with fail
    refine (awake8_any w1 HE1.out).mono ?_
    rintro e wz ⟨rfl, bz⟩
    go_wp2
    go_ret
    exact ⟨rfl, der_same bw1 bz⟩
end Go.Proofs.Ytlcfpdbiippenaa
