/- Walks of Format and the reference's: eight digits; two digits of a number. -/
import Derived.Test.YtlgnppfompeghaaDoorDateDay
import Derived.Deep.RegionHeld3
namespace Go.Proofs.YtlgnppfompeghaaDoor
open Go.RowKit

/-- string([]byte{x, y}). -/
theorem conv2 (W : World) (c d : UInt8) (x y : Int) (h : x = (c.toNat : Int)) (h' : y = (d.toNat : Int)) :
    (convert 60 9 (.slice (some ⟨W.heap.size, 0, none⟩) 2 2)).run Tryd.prog (W.alloc (.cells #[.int .u8 x, .int .u8 y] 5)) = .ok (.string ⟨#[c, d]⟩) (W.alloc (.cells #[.int .u8 x, .int .u8 y] 5)) := by
  subst h h'
  refine run_convert_bytes_back (W.alloc (.cells #[.int .u8 (c.toNat : Int), .int .u8 (d.toNat : Int)] 5)) 60 9 5 ⟨W.heap.size, 0, none⟩ 2 [c, d] Tryd.underlying60 Tryd.underlying5 Tryd.underlying9 ?_
  intro j hj
  match j, hj with
  | 0, _ => simp [Addr.add]
  | 1, _ => simp [Addr.add]

/-- The two digits of a number. -/
def twoB (n : Nat) : ByteArray := ⟨#[UInt8.ofNat (48 + n / 10), UInt8.ofNat (48 + n % 10)]⟩
theorem byte_of (k : Nat) (h : k < 10) : (UInt8.ofNat (48 + k)).toNat = 48 + k := by rw [UInt8.toNat_ofNat']; omega

set_option maxHeartbeats 400000 in
theorem rtwo_any (n : Int) (w : World) (h1 : 0 ≤ n) (h2 : n ≤ 99) :
    Calls Tryd.prog 35 #[.int .i64 n] w fun e w' => e = .returned (.string (twoB n.toNat)) ∧ Below w.heap.size w w' := by
  have b1 := byte_of (n.toNat / 10) (by omega)
  have b2 := byte_of (n.toNat % 10) (by omega)
  unfold twoB
  generalize UInt8.ofNat (48 + n.toNat / 10) = c at *
  generalize UInt8.ofNat (48 + n.toNat % 10) = d at *
  have k1 : ∀ W : World, _ := fun W => conv2 W c d (48 + n / 10) (48 + n % 10) (by omega) (by omega)
  clear b1 b2
  go_enter Tryd.func35, Tryd.ntmps35
  go_wp2
  go_ret
  exact ⟨rfl, below_new w _⟩
set_option maxHeartbeats 400000 in
theorem two_any (n : Int) (w : World) (h1 : 0 ≤ n) (h2 : n ≤ 99) :
    Calls Tryd.prog 39 #[.int .i64 n] w fun e w' => e = .returned (.string (twoB n.toNat)) ∧ Below w.heap.size w w' := by
  have b1 := byte_of (n.toNat / 10) (by omega)
  have b2 := byte_of (n.toNat % 10) (by omega)
  unfold twoB
  generalize UInt8.ofNat (48 + n.toNat / 10) = c at *
  generalize UInt8.ofNat (48 + n.toNat % 10) = d at *
  have k1 : ∀ W : World, _ := fun W => conv2 W c d (48 + n / 10 % 10) (48 + n % 10) (by omega) (by omega)
  clear b1 b2
  go_enter Tryd.func39, Tryd.ntmps39
  go_wp2
  go_ret
  exact ⟨rfl, below_new w _⟩

theorem dec_two (k r : Nat) (hk : 1 ≤ k) (hr : r < 100) : Lib.decDigits (k * 100 + r) = Lib.decDigits k ++ (twoB r).data.toList := by
  rw [Lib.decDigits, dif_neg (by omega), Lib.decDigits, dif_neg (by omega)]
  have e1 : (k * 100 + r) / 10 / 10 = k := by omega
  have e2 : (k * 100 + r) / 10 % 10 = r / 10 := by omega
  have e3 : (k * 100 + r) % 10 = r % 10 := by omega
  rw [e1, e2, e3, List.append_assoc]
  rfl
theorem dec_first (r : Nat) (h1 : 10 ≤ r) (h2 : r < 100) : Lib.decDigits r = (twoB r).data.toList := by
  rw [Lib.decDigits, dif_neg (by omega), Lib.decDigits, dif_pos (by omega)]
  rfl
/-- The eight digits. -/
def fmtB (y m d : Int) : ByteArray := twoB (y / 100).toNat ++ twoB (y % 100).toNat ++ twoB m.toNat ++ twoB d.toNat
def fmtV (y m d : Int) : Value := if DM.valid y m d = true then .tuple #[.string (fmtB y m d), .int .i64 0] else .tuple #[.string ⟨#[]⟩, .int .i64 4]
theorem itoa_fmt {y m d : Int} (h : DM.valid y m d = true) : (⟨(Lib.itoa ((y * 100 + m) * 100 + d)).toArray⟩ : ByteArray) = fmtB y m d := by
  obtain ⟨hy, hm, hd⟩ := DM.valid_iff.1 h
  have hl := DM.len_pos y m
  have e : Lib.itoa ((y * 100 + m) * 100 + d) = (twoB (y / 100).toNat).data.toList ++ (twoB (y % 100).toNat).data.toList ++ (twoB m.toNat).data.toList ++ (twoB d.toNat).data.toList := by
    unfold Lib.itoa
    rw [if_neg (by omega), show ((y * 100 + m) * 100 + d).toNat = (((y / 100).toNat * 100 + (y % 100).toNat) * 100 + m.toNat) * 100 + d.toNat by omega,
      dec_two _ _ (by omega) (by omega), dec_two _ _ (by omega) (by omega), dec_two _ _ (by omega) (by omega), dec_first _ (by omega) (by omega)]
  apply ba_ext
  rw [e]
  unfold fmtB
  rw [data_add, data_add, data_add]

set_option maxHeartbeats 1000000 in
theorem Format_any (y m d : Int) (w : World) (hE : DEnv w) :
    Calls Tryd.prog 16 #[dateV y m d] w fun e w' => e = .returned (fmtV y m d) ∧ Below w.heap.size w w' := by
  have HE := Lib.hid hE
  clear hE
  have C := Lib.hid (fun W hW => Valid_any y m d W hW)
  unfold dateV at *
  have hE1 := Lib.hid (HE.out.below (below_new w (.cells #[.int .i64 y, .int .i64 m, .int .i64 d] 24)))
  cases hv : DM.valid y m d
  · have F := Lib.hid (show fmtV y m d = .tuple #[.string ⟨#[]⟩, .int .i64 4] by unfold fmtV; rw [hv]; rfl)
    rw [hv] at C
    clear hv
    go_enter Tryd.func16, Tryd.ntmps16
    go_wp2_with fail
    refine (C.out _ hE1.out).mono ?_
    rintro e w1 ⟨rfl, b1⟩
    have b2 := Lib.hid (below_then (below_new w _) b1)
    clear b1
    go_wp2
    go_ret2
    exact ⟨congrArg Ending.returned F.out.symm, b2.out⟩
  · have F := Lib.hid (show fmtV y m d = .tuple #[.string ⟨(Lib.itoa ((y * 100 + m) * 100 + d)).toArray⟩, .int .i64 0] by unfold fmtV; rw [hv, itoa_fmt hv]; rfl)
    rw [hv] at C
    obtain ⟨⟨y1, y2⟩, ⟨m1, m2⟩, d1, d2⟩ := DM.valid_iff.1 hv
    have hl := DM.len_pos y m
    have d3 : d ≤ 31 := by omega
    clear hv hl d2
    have HI := Lib.hid (fun W hW => Tryd.strconv_Itoa ((y * 100 + m) * 100 + d) (by omega) (by omega) W (DEnv.tens hW))
    go_enter Tryd.func16, Tryd.ntmps16
    go_wp2_with fail
    refine (C.out _ hE1.out).mono ?_
    rintro e w1 ⟨rfl, b1⟩
    obtain ⟨q0, q1, q2, q3, q4, q5⟩ := ((dateAt_new w y m d rfl).below b1 (Nat.le_refl _)).parts
    have hE2 := Lib.hid (hE1.out.below b1)
    have b2 := Lib.hid (below_then (below_new w _) b1)
    clear b1
    go_wp2_with fail
    refine (HI.out _ hE2.out).mono ?_
    rintro e w2 ⟨rfl, k, os, rfl⟩
    go_wp2
    go_ret2
    exact ⟨congrArg Ending.returned F.out.symm, below_then b2.out (below_grown_sl _ _ _ _ (Nat.le_refl _))⟩

theorem parts_of (y : Int) (h1 : 0 ≤ y) (h2 : y ≤ 100000) : IntKind.i64.wrap (y.tdiv 100) = y / 100 ∧ y.tmod 100 = y % 100 := by
  rw [Int.tdiv_eq_ediv_of_nonneg h1, Int.tmod_eq_emod_of_nonneg h1]
  exact ⟨IntWalk.i64_in _ (by omega), rfl⟩
structure DSt (b : Nat) (y m d : Int) (w0 w : World) : Prop where
  date : DateAt b w y m d
  bel : Below w0.heap.size w0 w
theorem DSt.below {b : Nat} {y m d : Int} {w0 w w' : World} (h : DSt b y m d w0 w) (hb : Below w.heap.size w w') : DSt b y m d w0 w' :=
  ⟨h.date.below hb (Nat.le_refl _), below_then h.bel hb⟩
theorem DSt.drew {b : Nat} {y m d : Int} {w0 w : World} (h : DSt b y m d w0 w) : DSt b y m d w0 w.drew := h.below (below_drewN (Below.refl _ _) 1)
theorem DSt.cells {b : Nat} {y m d : Int} {w0 w : World} (h : DSt b y m d w0 w) : w.cell? ⟨b, 0, none⟩ = some (.int .i64 y) ∧ w.cell? ⟨b, 1, none⟩ = some (.int .i64 m) ∧ w.cell? ⟨b, 2, none⟩ = some (.int .i64 d) :=
  ⟨h.date.parts.1, h.date.parts.2.1, h.date.parts.2.2.1⟩

set_option maxHeartbeats 2000000 in
theorem rFormat_any (y m d : Int) (w : World) :
    Calls Tryd.prog 17 #[dateV y m d] w fun e w' => e = .returned (fmtV y m d) ∧ Below w.heap.size w w' := by
  have C := Lib.hid (fun W => rValid_any y m d W)
  unfold dateV at *
  cases hv : DM.valid y m d
  · have F := Lib.hid (show fmtV y m d = .tuple #[.string ⟨#[]⟩, .int .i64 4] by unfold fmtV; rw [hv]; rfl)
    rw [hv] at C
    clear hv
    go_enter Tryd.func17, Tryd.ntmps17
    go_wp2_with fail
    refine (C.out _).mono ?_
    rintro e w1 ⟨rfl, b1⟩
    have b2 := Lib.hid (below_then (below_new w _) b1)
    clear b1
    go_wp2
    go_ret2
    exact ⟨congrArg Ending.returned F.out.symm, b2.out⟩
  · have F := Lib.hid (show fmtV y m d = .tuple #[.string (twoB (y / 100).toNat ++ twoB (y % 100).toNat ++ twoB m.toNat ++ twoB d.toNat), .int .i64 0] by unfold fmtV fmtB; rw [hv]; rfl)
    rw [hv] at C
    obtain ⟨⟨y1, y2⟩, ⟨m1, m2⟩, d1, d2⟩ := DM.valid_iff.1 hv
    have hl := DM.len_pos y m
    have d3 : d ≤ 31 := by omega
    clear hv hl d2
    go_enter Tryd.func17, Tryd.ntmps17
    go_wp2_with fail
    refine (C.out _).mono ?_
    rintro e w1 ⟨rfl, b1⟩
    have HST := Lib.hid (show DSt w.heap.size y m d w w1 from ⟨(dateAt_new w y m d rfl).below b1 (Nat.le_refl _), below_then (below_new w _) b1⟩)
    obtain ⟨q0, q1, q2⟩ := HST.out.cells
    clear b1
    generalize w.heap.size = P at *
    go_wp2_with fail
    obtain ⟨t1, t2⟩ := parts_of y (by omega) (by omega)
    have sz : ∀ k, (twoB k).size = 2 := fun _ => rfl
    have hst := HST.out.drew
    go_region_held3 (fun w' => w'.cell? ⟨P, 0, none⟩ = some (.int .i64 y) ∧ w'.cell? ⟨P, 1, none⟩ = some (.int .i64 m) ∧ w'.cell? ⟨P, 2, none⟩ = some (.int .i64 d))
      (first | go_keep | exact hst.cells)
      (first
        | (go_at_call 35
           refine (rtwo_any _ _ ?_ ?_).mono ?_
           · omega
           · omega
           rintro e u ⟨rfl, bu⟩
           have hst := hst.below bu))
    rename_i hHeld
    clear hHeld
    go_wp2
    go_ret2
    exact ⟨congrArg Ending.returned F.out.symm, hst.bel⟩
end Go.Proofs.YtlgnppfompeghaaDoor
