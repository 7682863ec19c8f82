/- The walk of the program's Parts. -/
import Derived.Test.YtlcfpdbiippenaaSipSumP
namespace Go.Proofs.Ytlcfpdbiippenaa
open Go.RowKit
set_option linter.unusedVariables false
set_option maxRecDepth 100000

theorem part_text (x : ByteArray) : ∃ T : ByteArray, T.size ≤ 65535 ∧ T.size ≤ x.size ∧ ((T.size : Nat) : Int) = min (x.size : Int) 65535 ∧ x.extract 0 T.size = T ∧ partL x.data.toList = [UInt8.ofNat (T.size / 256), UInt8.ofNat (T.size % 256)] ++ T.data.toList := by
  by_cases h : 65535 < x.size
  · have hs : (x.extract 0 65535).size = 65535 := by simp; omega
    refine ⟨x.extract 0 65535, by omega, by omega, by omega, by rw [hs], ?_⟩
    rw [part_cut x h, two_bytes _ (by omega)]
  · have he : x.extract 0 x.size = x := by simp
    refine ⟨x, by omega, Nat.le_refl _, by omega, he, two_bytes x (by omega)⟩

set_option maxHeartbeats 2000000 in
theorem sParts_any (B : Nat) (kA kB : UInt64) (v : Value) (xs : List ByteArray) (w : World) (h : IsTexts B w v xs) (hB : B ≤ w.heap.size) (hl : xs.length ≤ 1000) (hz : ∀ x ∈ xs, x.size ≤ maxLen) :
    Calls Try.prog 15 #[keyV kA kB, v] w fun e w' => e = .returned (.int .u64 (n64 (ptV kA kB xs))) ∧ Below w.heap.size w w' := by
  have HX := Lib.hid h
  obtain ⟨A, cap, rfl, hc1, hc2, hc⟩ := h
  unfold maxLen at hc2 hz
  have HZ := Lib.hid hz
  clear hc hz
  have HO0 := Lib.hid (World.ownsRow_nil (w.alloc (.cells #[.int .u64 (n64 kA), .int .u64 (n64 kB)] 25)) (w.heap.size + 1) 5 1)
  have HB0 := Lib.hid (Below.refl (w.heap.size + 1) (w.alloc (.cells #[.int .u64 (n64 kA), .int .u64 (n64 kB)] 25)))
  unfold keyV
  go_enter Try.func15, Try.ntmps15
  go_wp2
  go_loopw [5, 10] (fun bv iv wr => ∃ k : Nat, k ≤ xs.length ∧ iv = .int .i64 k ∧ OwnsB (w.heap.size + 1) wr bv (partsL (xs.take k)) ∧ Below (w.heap.size + 1) (w.alloc (.cells #[.int .u64 (n64 kA), .int .u64 (n64 kB)] 25)) wr) (fun _ iv _ => xs.length - (intOf iv).toNat)
  case atStart => exact ⟨0, Nat.zero_le _, rfl, HO0.out, HB0.out⟩
  case round =>
    obtain ⟨k, hk, rfl, hown, hbw⟩ := hrel
    have HW := Lib.hid hown
    clear hown
    have hsz := hbw.size
    simp only [World.size_alloc] at hsz
    have hbw0 : Below w.heap.size w wr := ((Below.refl _ w).alloc (Nat.le_refl _) (.cells #[.int .u64 (n64 kA), .int .u64 (n64 kB)] 25)).trans (hbw.mono (Nat.le_succ _))
    by_cases hlt : k < xs.length
    · obtain ⟨b, o, c2, hv, -, -, hbB, hcell⟩ := HX.out.at_ (List.ne_nil_of_length_pos (by omega))
      injection hv with hv1 hv2 hv3
      subst hv1 hv3
      have k0 := (hbw0.cell (p := ⟨b, o + k, none⟩) (by show b < w.heap.size; omega)).trans (hcell k hlt)
      have hxz := HZ.out xs[k] (List.getElem_mem hlt)
      have HN := Lib.hid (partsL_next xs k hlt)
      have hal := partsL_len (xs.take k)
      have hal2 : (partsL (xs.take k)).length ≤ 70000000 := by
        rw [List.length_take] at hal
        have : min k xs.length ≤ 1000 := by omega
        have := Nat.mul_le_mul_left 65537 this
        omega
      have i1 : (k : Int) < (xs.length : Int) := by omega
      generalize xs[k] = x at *
      clear hcell hal
      generalize partsL (xs.take k) = acc at *
      have HOB := Lib.hid (fun q hq => World.ownsRow.lt HW.out q hq)
      obtain ⟨T, hm, hT2, hT3, hT4, hpart⟩ := part_text x
      have HP := Lib.hid hpart
      have hmn := fun (W : World) (ts : Array TypeId) (ty : TypeId) => min2u (W := W) ts ty (x.size : Int) 65535 T.size hT3
      clear hpart hT3
      have w8 : IntKind.u8.wrap ((T.size : Int) / 256) = (T.size : Int) / 256 := by
        simp [IntKind.wrap, IntKind.bits, IntKind.signed]
        omega
      have w9 : IntKind.u8.wrap (T.size : Int) = (T.size : Int) % 256 := by
        simp [IntKind.wrap, IntKind.bits, IntKind.signed]
      have HC2 := Lib.hid (cells_two wr 5 T.size hm)
      have hbs : w.heap.size + 1 ≤ (wr.alloc (.cells #[.int .u8 (((T.size : Nat) : Int) / 256), .int .u8 (((T.size : Nat) : Int) % 256)] 5)).heap.size := by simp; omega
      go_wp2_with (at_builtin; refine wpList_bytes_row rfl _ _ rfl (w.heap.size + 1) hbs _ acc rfl (HW.out.alloc _) wr.heap.size [UInt8.ofNat (T.size / 256), UInt8.ofNat (T.size % 256)] rfl HC2.out (by simp; omega) ?_)
      intro v2 w2 own2 grow2
      have hb2 : Below (w.heap.size + 1) (w.alloc (.cells #[.int .u64 (n64 kA), .int .u64 (n64 kB)] 25)) w2 := (hbw.alloc hsz _).grown grow2 hbs (fun q hq => (HOB.out q hq).1)
      have hs2 : w.heap.size + 1 ≤ w2.heap.size := by have := hb2.size; simp only [World.size_alloc] at this; exact this
      have HOB2 := Lib.hid (fun q hq => World.ownsRow.lt own2 q hq)
      have O2 := Lib.hid own2
      have hl2 : (acc ++ [UInt8.ofNat (T.size / 256), UInt8.ofNat (T.size % 256)]).length + T.size ≤ 100000000 := by rw [List.length_append]; simp only [List.length_cons, List.length_nil]; omega
      clear own2 grow2
      go_wp2_with (at_builtin; refine wpList_bytes_str rfl _ _ rfl (w.heap.size + 1) hs2 _ _ rfl O2.out T rfl hl2 ?_)
      intro v3 w3 own3 grow3
      have hb3 := hb2.grown grow3 hs2 (fun q hq => (HOB2.out q hq).1)
      have hown4 : Hid (OwnsB (w.heap.size + 1) w3 v3 (partsL (xs.take (k + 1)))) := by
        show OwnsB _ _ _ _
        rw [HN.out, HP.out, ← List.append_assoc]
        simpa using own3
      clear own3 grow3
      go_wp2
      exact ⟨⟨k + 1, by omega, by go_num, hown4.out, hb3⟩, by simp [intOf]; omega⟩
    · obtain rfl : k = xs.length := by omega
      rw [List.take_length] at HW
      have hal := partsL_len xs
      have hal2 : (partsL xs).length ≤ 70000000 := by
        have := Nat.mul_le_mul_left 65537 hl
        omega
      have c0 : wr.cell? ⟨w.heap.size, 0, none⟩ = some (.int .u64 (n64 kA)) := (hbw.cell (p := ⟨w.heap.size, 0, none⟩) (Nat.lt_succ_self _)).trans (new_cellB w _ _ 0 _ rfl)
      have c1 : wr.cell? ⟨w.heap.size, 1, none⟩ = some (.int .u64 (n64 kB)) := (hbw.cell (p := ⟨w.heap.size, 1, none⟩) (Nat.lt_succ_self _)).trans (new_cellB w _ _ 1 _ rfl)
      have HS := Lib.hid (sSum_any wr.heap.size kA kB _ (partsL xs) wr HW.out.is (Nat.le_refl _) (by omega))
      unfold keyV at HS
      clear hal
      go_wp2_with fail
      refine HS.out.mono ?_
      rintro e w3 ⟨rfl, b3⟩
      go_wp2
      go_ret
      exact ⟨rfl, hbw0.trans (b3.mono hbw0.size)⟩
end Go.Proofs.Ytlcfpdbiippenaa
