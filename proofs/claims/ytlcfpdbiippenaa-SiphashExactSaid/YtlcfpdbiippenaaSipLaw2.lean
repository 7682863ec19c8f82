/- Walks of SiphashDerive and SiphashLengths. -/
import Derived.Test.YtlcfpdbiippenaaSipLaw1
import Derived.Deep.RegionHeld3
namespace Go.Proofs.Ytlcfpdbiippenaa
open Go.RowKit
set_option linter.unusedVariables false
set_option maxRecDepth 100000

theorem si_below {w w' : World} {g B : Nat} (h : w.grownBy w' (some g)) (hB : B ≤ g) (hg : g < w.heap.size) : Below B w w' := below_of_grown h hB (by omega)

theorem der_al {W0 W : World} {u : Obj} (h : Below W0.heap.size W0 W) : Below W0.heap.size W0 (W.alloc u) := h.alloc h.size u
theorem der_ad {W0 W : World} {u : Obj} (h : Below W0.heap.size W0 W) : Below W0.heap.size W0 (W.alloc u).drew := (h.alloc h.size u).drew

set_option maxHeartbeats 4000000 in
theorem SiphashDerive_walk (A : Option Addr) (n c : Nat) (label : ByteArray) (w : World) (hE : PEnv w) (hI : IntsArg w A n c) (hl : label.size ≤ maxLen) :
    Calls Try.prog 5 #[.slice A n c, .string label] w fun e w' => e = .returned (.bool true) ∧ Below w.heap.size w w' := by
  have HE := Lib.hid hE
  have HI := Lib.hid hI
  clear hE hI
  go_enter Try.func5, Try.ntmps5
  go_wp2_with fail
  refine (awake8_any w HE.out).mono ?_
  rintro e w1 ⟨rfl, b1⟩
  have HE1 := Lib.hid (HE.out.below b1 (Nat.le_refl _))
  go_wp2_with fail
  refine (Few_any A n c w1 (Nat.le_trans HI.out.1 HI.out.2.1)).mono ?_
  rintro e w1' ⟨rfl, rfl⟩
  by_cases hn : n ≤ 400
  · have hd : decide (n ≤ 400) = true := by simp [hn]
    rw [hd]
    clear hd
    go_wp2_with fail
    refine (Short_any _ _ [label] _ (texts_lit w1 [label] (by unfold maxLen; simp))).mono ?_
    rintro e w2 ⟨rfl, rfl⟩
    have b2 : Below w.heap.size w (w1.alloc (.cells ([label].map Value.string).toArray 9)) := b1.alloc b1.size _
    rw [short_one]
    generalize w1.alloc (.cells ([label].map Value.string).toArray 9) = w2 at *
    have HE2 := Lib.hid (HE.out.below b2 (Nat.le_refl _))
    by_cases hs : label.size ≤ 200
    · have hd : decide (label.size ≤ 200) = true := by simp [hs]
      rw [hd]
      clear hd
      go_wp2_with fail
      refine (New_any A n c w2 (HI.out.below b2)).mono ?_
      rintro e w3 ⟨rfl, hd3, b3⟩
      generalize hg : w2.heap.size = g at *
      have HG := Lib.hid hg
      clear hg
      have hgw : w.heap.size ≤ g := by rw [← HG.out]; exact b2.size
      have b3' : Below w.heap.size w w3 := b2.trans (b3.mono hgw)
      go_wp2_with fail
      refine (Key_any g w3 hd3).mono ?_
      rintro e w4 ⟨kA, kB, rfl, hd4, g4⟩
      have b4 : Below w.heap.size w w4 := b3'.trans (si_below g4 hgw hd3.lt)
      clear b3 b3' b2 hd3 hd4 g4
      have HDV := Lib.hid (fun W (h : PEnv W) => Derive_any kA kB label W h hl)
      have HPA := Lib.hid (fun W g (h : PEnv W) (h0 : W.cell? ⟨g, 0, none⟩ = some (.string label)) (h1 : W.cell? ⟨g, 1, none⟩ = some (.string ⟨#[97]⟩)) => Parts_any (g + 1) kA kB _ [label, ⟨#[97]⟩] W h (texts_two h0 h1) (Nat.succ_le_of_lt (World.block_lt_of_cell? W _ h0)) (by simp) (pair_len hl (by decide)))
      have HPB := Lib.hid (fun W g (h : PEnv W) (h0 : W.cell? ⟨g, 0, none⟩ = some (.string label)) (h1 : W.cell? ⟨g, 1, none⟩ = some (.string ⟨#[98]⟩)) => Parts_any (g + 1) kA kB _ [label, ⟨#[98]⟩] W h (texts_two h0 h1) (Nat.succ_le_of_lt (World.block_lt_of_cell? W _ h0)) (by simp) (pair_len hl (by decide)))
      unfold derV at HDV
      generalize ptV kA kB [label, ⟨#[97]⟩] = P1 at *
      generalize ptV kA kB [label, ⟨#[98]⟩] = P2 at *
      unfold keyV at *
      go_wp2_with fail
      obtain ⟨W5, hW5⟩ : ∃ W, W = w4.alloc (.cells #[.int .u64 (n64 kA), .int .u64 (n64 kB)] 25) := ⟨_, rfl⟩
      have k0 : W5.cell? ⟨w4.heap.size, 0, none⟩ = some (.int .u64 (n64 kA)) := by rw [hW5]; exact new_cellB w4 _ _ 0 _ rfl
      have k1 : W5.cell? ⟨w4.heap.size, 1, none⟩ = some (.int .u64 (n64 kB)) := by rw [hW5]; exact new_cellB w4 _ _ 1 _ rfl
      have b5 : Below w.heap.size w W5 := by rw [hW5]; exact b4.alloc b4.size _
      have hs5 : W5.heap.size = w4.heap.size + 1 := by rw [hW5]; simp
      rw [← hW5]
      clear hW5
      refine (HDV.out W5 (HE.out.below b5 (Nat.le_refl _))).mono ?_
      rintro e w6 ⟨rfl, b6⟩
      have k2 : w6.cell? ⟨w4.heap.size, 0, none⟩ = some (.int .u64 (n64 kA)) := (b6.cell (p := ⟨w4.heap.size, 0, none⟩) (by show w4.heap.size < W5.heap.size; omega)).trans k0
      have k3 : w6.cell? ⟨w4.heap.size, 1, none⟩ = some (.int .u64 (n64 kB)) := (b6.cell (p := ⟨w4.heap.size, 1, none⟩) (by show w4.heap.size < W5.heap.size; omega)).trans k1
      have b6' : Below w.heap.size w w6 := der_same b5 b6
      have hk6 : w4.heap.size < w6.heap.size := by have := b6.size; omega
      clear b5 b6 hs5 k0 k1 HDV b4
      go_wp2_with fail
      obtain ⟨W6, hW6⟩ : ∃ W, W = w6.alloc (.cells #[.int .u64 (n64 P1), .int .u64 (n64 P2)] 25) := ⟨_, rfl⟩
      have hs6 : W6.heap.size = w6.heap.size + 1 := by rw [hW6]; simp
      have b7 : Below w.heap.size w W6 := by rw [hW6]; exact b6'.alloc b6'.size _
      have x0 : W6.cell? ⟨w6.heap.size, 0, none⟩ = some (.int .u64 (n64 P1)) := by rw [hW6]; exact new_cellB w6 _ _ 0 _ rfl
      have x1 : W6.cell? ⟨w6.heap.size, 1, none⟩ = some (.int .u64 (n64 P2)) := by rw [hW6]; exact new_cellB w6 _ _ 1 _ rfl
      have k0 : W6.cell? ⟨w4.heap.size, 0, none⟩ = some (.int .u64 (n64 kA)) := by rw [hW6]; exact cell_one8 k2
      have k1 : W6.cell? ⟨w4.heap.size, 1, none⟩ = some (.int .u64 (n64 kB)) := by rw [hW6]; exact cell_one8 k3
      rw [← hW6]
      clear hW6 k2 k3 b6'
      generalize w6.heap.size = X at *
      generalize w4.heap.size = Y at *
      have HC := Lib.hid (fun W (h : Below W6.heap.size W6 W) => show (W.cell? ⟨Y, 0, none⟩ = some (.int .u64 (n64 kA)) ∧ W.cell? ⟨Y, 1, none⟩ = some (.int .u64 (n64 kB)) ∧ W.cell? ⟨X, 0, none⟩ = some (.int .u64 (n64 P1)) ∧ W.cell? ⟨X, 1, none⟩ = some (.int .u64 (n64 P2))) from ⟨(h.cell (p := ⟨Y, 0, none⟩) (by show Y < W6.heap.size; omega)).trans k0, (h.cell (p := ⟨Y, 1, none⟩) (by show Y < W6.heap.size; omega)).trans k1, (h.cell (p := ⟨X, 0, none⟩) (by show X < W6.heap.size; omega)).trans x0, (h.cell (p := ⟨X, 1, none⟩) (by show X < W6.heap.size; omega)).trans x1⟩)
      have HB7 := Lib.hid b7
      have HEW := Lib.hid (fun W (h : Below W6.heap.size W6 W) => HE.out.below (der_same b7 h) (Nat.le_refl _))
      clear b7 hs6 hk6 b1
      have hr0 : Below W6.heap.size W6 W6 := Below.refl _ _
      go_region_held3 (fun w' => w'.cell? ⟨Y, 0, none⟩ = some (.int .u64 (n64 kA)) ∧ w'.cell? ⟨Y, 1, none⟩ = some (.int .u64 (n64 kB)) ∧ w'.cell? ⟨X, 0, none⟩ = some (.int .u64 (n64 P1)) ∧ w'.cell? ⟨X, 1, none⟩ = some (.int .u64 (n64 P2)))
        (first | go_keep | exact hst)
        (first
          | (have hstage := st1
             go_at_call 15
             refine (HPB.out _ _ (HEW.out _ (der_al hr1)) (new_cellB _ _ _ 0 _ rfl) (new_cellB _ _ _ 1 _ rfl)).mono ?_
             rintro e v ⟨rfl, bv⟩
             have hr2 := der_below hr1 bv
             have hst := HC.out v hr2)
          | (go_at_call 15
             refine (HPA.out _ W6.heap.size (HEW.out _ (der_ad hr0)) (cell_drew8 (new_cellB _ _ _ 0 _ rfl)) (cell_drew8 (new_cellB _ _ _ 1 _ rfl))).mono ?_
             rintro e u ⟨rfl, bu⟩
             have hr1 := der_drew hr0 bu
             have hst := HC.out u hr1
             have st1 := trivial))
      rename_i hHeld
      clear hHeld HC HPA HPB hst
      go_wp2
      go_ret
      exact ⟨rfl, der_same HB7.out hr2⟩
    · have hd : decide (label.size ≤ 200) = false := by simp [hs]
      rw [hd]
      clear hd
      go_wp2_with fail
      refine (awake8_any w2 HE2.out).mono ?_
      rintro e w3 ⟨rfl, b3⟩
      go_wp2
      go_ret
      exact ⟨rfl, der_same b2 b3⟩
  · have hd : decide (n ≤ 400) = false := by simp [hn]
    rw [hd]
    clear hd
    go_wp2_with fail
    refine (awake8_any w1 HE1.out).mono ?_
    rintro e w2 ⟨rfl, b2⟩
    go_wp2
    go_ret
    exact ⟨rfl, der_same b1 b2⟩
end Go.Proofs.Ytlcfpdbiippenaa
