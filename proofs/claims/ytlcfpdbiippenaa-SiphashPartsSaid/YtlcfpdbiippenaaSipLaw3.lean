/- The walk of SiphashParts. -/
import Derived.Test.YtlcfpdbiippenaaSipRows
import Derived.Deep.RegionHeld3
namespace Go.Proofs.Ytlcfpdbiippenaa
open Go.RowKit
set_option linter.unusedVariables false
set_option maxRecDepth 100000

set_option maxHeartbeats 4000000 in
theorem SiphashParts_walk (A : Option Addr) (n c : Nat) (w : World) (hE : PEnv w) (hI : IntsArg w A n c) :
    Calls Try.prog 4 #[.slice A n c] w fun e w' => e = .returned (.bool true) ∧ Below w.heap.size w w' := by
  have HE := Lib.hid hE
  have HI := Lib.hid hI
  clear hE hI
  go_enter Try.func4, Try.ntmps4
  go_wp2_with fail
  refine (awake8_any w HE.out).mono ?_
  rintro e w1 ⟨rfl, b1⟩
  have HE1 := Lib.hid (HE.out.below b1 (Nat.le_refl _))
  go_wp2_with fail
  refine (Few_any A n c w1 (Nat.le_trans HI.out.1 HI.out.2.1)).mono ?_
  rintro e w1' ⟨rfl, rfl⟩
  by_cases hn : n ≤ 400
  · have hd : decide (n ≤ 400) = true := by simp [hn]
    rw [hd]
    clear hd
    go_wp2_with fail
    refine (New_any A n c w1 (HI.out.below b1)).mono ?_
    rintro e w3 ⟨rfl, hd3, b3⟩
    generalize hg : w1.heap.size = g at *
    have HG := Lib.hid hg
    clear hg
    have hgw : w.heap.size ≤ g := by rw [← HG.out]; exact b1.size
    have b3' : Below w.heap.size w w3 := b1.trans (b3.mono hgw)
    go_wp2_with fail
    refine (Key_any g w3 hd3).mono ?_
    rintro e w4 ⟨kA, kB, rfl, hd4, g4⟩
    have b4 : Below w.heap.size w w4 := b3'.trans (si_below g4 hgw hd3.lt)
    clear b3 b3' hd3 g4 b1
    unfold keyV
    go_wp2_with fail
    obtain ⟨W5, hW5⟩ : ∃ W, W = w4.alloc (.cells #[.int .u64 (n64 kA), .int .u64 (n64 kB)] 25) := ⟨_, rfl⟩
    have hk : W5.heap[w4.heap.size]? = some (.cells #[.int .u64 (n64 kA), .int .u64 (n64 kB)] 25 (0, 0)) := by rw [hW5]; exact heap_alloc_new w4 _
    have b5 : Below w.heap.size w W5 := by rw [hW5]; exact b4.alloc b4.size _
    have hs5 : W5.heap.size = w4.heap.size + 1 := by rw [hW5]; simp
    have hd5 : Deck g W5 := by rw [hW5]; exact hd4.alloc _
    have hgY := hd4.lt
    rw [← hW5]
    clear hW5 hd4 b4
    generalize w4.heap.size = Y at *
    have hk' := hk
    clear hk
    refine (Next_any g W5 hd5 5 (by omega) (by omega)).mono ?_
    rintro e w6 ⟨x, rfl, ⟨hx0, hx1⟩, hd6, g6⟩
    obtain ⟨m, rfl⟩ := Int.eq_ofNat_of_zero_le hx0
    have hm : m < 5 := by omega
    clear hx0 hx1
    have hs6 := g6.size
    go_wp2
    go_loopw [5, 6, 7] (fun pv bv nv wr => ∃ (k : Nat) (xs : List ByteArray), nv = .int .i64 k ∧ xs.length + k ≤ 4 ∧ (∀ x ∈ xs, x.size ≤ 64) ∧ wr.ownsRow (Y + 1) 9 1 pv xs.length (xs.map Value.string) ∧ OwnsB (Y + 1) wr bv (partsL xs) ∧ Deck g wr ∧ W5.grownBy wr (some g)) (fun _ _ nv _ => (intOf nv).toNat)
    case atStart => exact ⟨m, [], rfl, by simp; omega, by simp, World.ownsRow_nil _ _ _ _, World.ownsRow_nil _ _ _ _, hd6, g6⟩
    case round =>
      obtain ⟨k, xs, rfl, hk, hz, hrow, hby, hd, hgr⟩ := hrel
      have HZ := Lib.hid hz
      have HROW := Lib.hid hrow
      have HBY := Lib.hid hby
      have HD := Lib.hid hd
      have HGR := Lib.hid hgr
      have hsr := hgr.size
      clear hz hrow hby hd hgr
      by_cases h0 : 0 < k
      · go_wp2_with fail
        refine (Text_any g wr HD.out).mono ?_
        rintro e w7 ⟨t, rfl, ht, hd7, g7⟩
        have hrow7 := Lib.hid (owns_grown HROW.out g7 (fun q hq e => by injection hq with hq; subst hq; have := (owns_at HROW.out e).1; omega))
        have hby7 := Lib.hid (show OwnsB (Y + 1) w7 _ (partsL xs) from owns_grown HBY.out g7 (fun q hq e => by injection hq with hq; subst hq; have := (owns_at HBY.out e).1; omega))
        have HG7 := Lib.hid (grown_trans HGR.out g7)
        have HD7 := Lib.hid hd7
        have hs7 := HG7.out.size
        clear hd7 g7
        go_wp2_with (at_builtin; refine wpList_append_texts rfl _ _ rfl (Y + 1) (by simp; omega) _ xs rfl (World.ownsRow.alloc hrow7.out _) _ _ [t] rfl (texts_one (new_cellB _ _ _ 0 _ rfl)) (proper_some _ _ _) (by simp; omega) ?_)
        intro v8 w8 hrow8 g8
        have HROW8 := Lib.hid (show w8.ownsRow (Y + 1) 9 1 v8 (xs ++ [t]).length ((xs ++ [t]).map Value.string) by simpa using hrow8)
        have HD8 := Lib.hid ((HD7.out.alloc _).own g8 (fun q hq => by have := (owns_at hrow7.out hq).1; omega))
        have HG8 := Lib.hid (grown_own (grown_alloc HG7.out _) g8 (fun q hq => by have := (owns_at hrow7.out hq).1; omega))
        have hby8 := Lib.hid (show OwnsB (Y + 1) w8 _ (partsL xs) from owns_grown (World.ownsRow.alloc hby7.out _) g8 (fun q hq e => rows_two hrow7.out hby7.out hq e))
        have hs8 := HG8.out.size
        clear hrow8 g8 hrow7 hby7 HG7 HD7
        have hal := partsL_len xs
        have hal2 : (partsL xs).length ≤ 1000000 := by omega
        clear hal
        have hbs : Y + 1 ≤ (w8.alloc (.cells #[.int .u8 (((t.size : Nat) : Int) / 256), .int .u8 (((t.size : Nat) : Int) % 256)] 5)).heap.size := by simp; omega
        have HC2 := Lib.hid (cells_two w8 5 t.size (by omega))
        go_wp2_with (at_builtin; refine wpList_bytes_row rfl _ _ rfl (Y + 1) hbs _ (partsL xs) rfl (OwnsB.alloc hby8.out _) w8.heap.size [UInt8.ofNat (t.size / 256), UInt8.ofNat (t.size % 256)] rfl HC2.out (by simp; omega) ?_)
        intro v9 w9 own9 g9
        have HD9 := Lib.hid ((HD8.out.alloc _).own g9 (fun q hq => by have := (owns_at hby8.out hq).1; omega))
        have HG9 := Lib.hid (grown_own (grown_alloc HG8.out _) g9 (fun q hq => by have := (owns_at hby8.out hq).1; omega))
        have HROW9 := Lib.hid (owns_grown (World.ownsRow.alloc HROW8.out _) g9 (fun q hq e => rows_two HROW8.out hby8.out e hq))
        have O9 := Lib.hid own9
        have hs9 := HG9.out.size
        have hl9 : (partsL xs ++ [UInt8.ofNat (t.size / 256), UInt8.ofNat (t.size % 256)]).length + t.size ≤ 100000000 := by rw [List.length_append]; simp only [List.length_cons, List.length_nil]; omega
        have hp9 := Lib.hid (show partsL (xs ++ [t]) = partsL xs ++ [UInt8.ofNat (t.size / 256), UInt8.ofNat (t.size % 256)] ++ t.data.toList by
          have e1 : partsL (xs ++ [t]) = partsL xs ++ partL t.data.toList := by unfold partsL; simp
          rw [e1, two_bytes t (by omega), List.append_assoc])
        clear own9 g9 HC2 hbs HD8 HG8 HROW8 hby8
        go_wp2_with (at_builtin; refine wpList_bytes_str rfl _ _ rfl (Y + 1) (by omega) _ _ rfl O9.out t rfl hl9 ?_)
        intro va wa owna ga
        have HDA := Lib.hid (HD9.out.own ga (fun q hq => by have := (owns_at O9.out hq).1; omega))
        have HGA := Lib.hid (grown_own HG9.out ga (fun q hq => by have := (owns_at O9.out hq).1; omega))
        have HROWA := Lib.hid (owns_grown HROW9.out ga (fun q hq e => rows_two HROW9.out O9.out e hq))
        have OA := Lib.hid (show OwnsB (Y + 1) wa va (partsL (xs ++ [t])) by rw [hp9.out]; first | exact owna | simpa using owna)
        clear owna ga HD9 HG9 HROW9 O9 hl9 hp9
        go_wp2
        exact ⟨⟨k - 1, xs ++ [t], by go_num, by simp; omega, fun y hy => by
          rcases List.mem_append.1 hy with hy | hy
          · exact HZ.out y hy
          · rw [List.mem_singleton.1 hy]; exact ht, HROWA.out, OA.out, HDA.out, HGA.out⟩, by simp [intOf]; omega⟩
      · have hbw : Below w.heap.size w wr := b5.trans (si_below HGR.out hgw hd5.lt)
        have hkr : wr.heap[Y]? = some (.cells #[.int .u64 (n64 kA), .int .u64 (n64 kB)] 25 (0, 0)) := (HGR.out.block Y (by omega) (fun e => by injection e; omega)).trans hk'
        have k0 : wr.cell? ⟨Y, 0, none⟩ = some (.int .u64 (n64 kA)) := by rw [cell_of_row _ _ _ _ _ _ hkr]; rfl
        have k1 : wr.cell? ⟨Y, 1, none⟩ = some (.int .u64 (n64 kB)) := by rw [cell_of_row _ _ _ _ _ _ hkr]; rfl
        have hYr : Y < wr.heap.size := by omega
        have hal := partsL_len xs
        have HC := Lib.hid (fun W (h : Below wr.heap.size wr W) => show (W.cell? ⟨Y, 0, none⟩ = some (.int .u64 (n64 kA)) ∧ W.cell? ⟨Y, 1, none⟩ = some (.int .u64 (n64 kB))) from ⟨(h.cell (p := ⟨Y, 0, none⟩) hYr).trans k0, (h.cell (p := ⟨Y, 1, none⟩) hYr).trans k1⟩)
        have HB7 := Lib.hid hbw
        have HP1 := Lib.hid (fun W (h : Below wr.heap.size wr W) => Parts_any wr.heap.size kA kB _ xs W (HE.out.below (der_same hbw h) (Nat.le_refl _)) ((IsTexts.of_own HROW.out).keep h) h.size (by omega) (fun x hx => by have := HZ.out x hx; unfold maxLen; omega))
        have HP2 := Lib.hid (fun W (h : Below wr.heap.size wr W) => Sum_any wr.heap.size kA kB _ (partsL xs) W (HE.out.below (der_same hbw h) (Nat.le_refl _)) (HBY.out.is.keep h) h.size (by omega))
        unfold ptV at HP1
        generalize SM.sum kA kB (partsL xs) = P at *
        unfold keyV at *
        have hr0 : Below wr.heap.size wr wr.drew := (Below.refl _ wr).drew
        clear HZ HROW HBY HD HGR hkr hal hbw hd5 b5 hk' hsr
        go_wp2_with fail
        go_region_held3 (fun w' => w'.cell? ⟨Y, 0, none⟩ = some (.int .u64 (n64 kA)) ∧ w'.cell? ⟨Y, 1, none⟩ = some (.int .u64 (n64 kB)))
          (first | go_keep | exact hst)
          (first
            | (go_at_call 15
               refine (HP1.out _ hr0).mono ?_
               rintro e u ⟨rfl, bu⟩
               have hr1 := der_same hr0 bu
               have hst := HC.out u hr1)
            | (go_at_call 13
               refine (HP2.out _ hr1).mono ?_
               rintro e v ⟨rfl, bv⟩
               have hr2 := der_same hr1 bv
               have hst := HC.out v hr2))
        rename_i hHeld
        clear hHeld HC HP1 HP2 hst
        go_wp2
        go_ret
        exact ⟨rfl, der_same HB7.out hr2⟩
  · have hd : decide (n ≤ 400) = false := by simp [hn]
    rw [hd]
    clear hd
    go_wp2_with fail
    refine (awake8_any w1 HE1.out).mono ?_
    rintro e w2 ⟨rfl, b2⟩
    go_wp2
    go_ret
    exact ⟨rfl, der_same b1 b2⟩
end Go.Proofs.Ytlcfpdbiippenaa
