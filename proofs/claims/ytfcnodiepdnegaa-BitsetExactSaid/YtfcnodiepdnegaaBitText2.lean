/- The reference's Hex, Read. -/
import Derived.Test.YtfcnodiepdnegaaBitText
namespace Go.Proofs.Ytfcnodiepdnegaa
open Go.RowKit
set_option linter.unusedVariables false
set_option maxRecDepth 100000

def hexM (L : Int) (l : List UInt64) : Value := if BM.okB L l then .tuple #[.string (bs (BM.hexL l)), .int .i64 0] else .tuple #[.string ⟨#[]⟩, .int .i64 8]
theorem hexB_size (l : List UInt64) : (bs (BM.hexL l)).size = 16 * l.length := by
  rw [← size_list, list_bs, BM.hexL_len]
theorem hexB_next (l : List UInt64) (k : Nat) (hk : k < l.length) : bs (BM.hexL (l.take (k + 1))) = bs (BM.hexL (l.take k)) ++ digF l[k] 16 := by
  apply ba_ext
  rw [data_add]
  unfold digF
  rw [list_bs, list_bs, list_bs, List.take_succ_eq_append_getElem hk]
  unfold BM.hexL BM.hexW
  rw [List.flatMap_append]
  simp
set_option maxHeartbeats 2000000 in
theorem rHex_any (B : Nat) (v : Value) (L : Int) (l : List UInt64) (w : World) (h : IsBits B w v L l) (hB : B ≤ w.heap.size) :
    Calls Try.prog 31 #[v] w fun e w' => e = .returned (hexM L l) ∧ Below w.heap.size w w' := by
  obtain ⟨A, c, rfl, HI, h1, h2, hL, HCA⟩ := h.open_
  clear h
  have HV := Lib.hid (fun W h => rValid_any B (.agg #[.int .i64 L, .slice A l.length c]) L l W h)
  have HWD := Lib.hid (fun x W => rWord_any x W)
  have hqa := heap_alloc_new w (.cells #[.int .i64 L, .slice A l.length c] 25)
  have hbw : Below w.heap.size w (w.alloc (.cells #[.int .i64 L, .slice A l.length c] 25)) := (Below.refl _ w).alloc (Nat.le_refl _) _
  have hs1 : w.heap.size + 1 = (w.alloc (.cells #[.int .i64 L, .slice A l.length c] 25)).heap.size := by simp
  have HM := Lib.hid (show hexM L l = if BM.okB L l then .tuple #[.string (bs (BM.hexL l)), .int .i64 0] else .tuple #[.string ⟨#[]⟩, .int .i64 8] from rfl)
  go_enter Try.func31, Try.ntmps31
  go_wp2_with fail
  generalize w.alloc (.cells #[.int .i64 L, .slice A l.length c] 25) = W1 at *
  refine (HV.out _ (HI.out.keep (hbw.mono hB))).mono ?_
  rintro e w2 ⟨rfl, b2⟩
  have hq2 := (b2.block w.heap.size (by omega)).trans hqa
  have hb2 := Lib.hid (same_of hbw b2)
  have x1 : w2.cell? ⟨w.heap.size, 1, none⟩ = some (.slice A l.length c) := by rw [cell_of_row _ _ _ _ _ _ hq2]; rfl
  clear hqa hbw hs1 b2 hq2
  cases hok : BM.okB L l
  · go_wp2
    go_ret2
    rw [HM.out, hok]
    exact ⟨rfl, hb2.out⟩
  · have hl8 : l.length ≤ 8 := by rw [BM.okB_iff] at hok; omega
    have HMR := Lib.hid (show hexM L l = .tuple #[.string (bs (BM.hexL l)), .int .i64 0] by rw [HM.out, hok]; rfl)
    clear hok
    go_wp2
    go_loop [4, 5] (fun sv iv => ∃ k : Nat, k ≤ l.length ∧ iv = .int .i64 k ∧ sv = .string (bs (BM.hexL (l.take k)))) (fun _ iv => l.length - (intOf iv).toNat)
    case atStart => exact ⟨0, Nat.zero_le _, rfl, rfl⟩
    case round =>
      obtain ⟨k, hk, rfl, rfl⟩ := hrel
      by_cases hlt : k < l.length
      · obtain ⟨b, o, rfl, hbB, c0⟩ := HCA.out k hlt
        have c1 := (hb2.out.cell (p := ⟨b, o + k, none⟩) (by show b < w.heap.size; omega)).trans c0
        have HN := Lib.hid (hexB_next l k hlt)
        have hsz := hexB_size (l.take k)
        rw [List.length_take, Nat.min_eq_left (by omega)] at hsz
        have i1 : (k : Int) < (l.length : Int) := by omega
        have hsz2 := digF_size l[k] 16
        generalize l[k] = x at *
        have HWX := Lib.hid (fun W => rWord_any x W)
        generalize digF x 16 = dx at *
        generalize bs (BM.hexL (l.take k)) = acc at *
        have hcat : acc.size ≤ 128 := by omega
        have hcat2 : dx.size ≤ 16 := by omega
        have hcat3 : ¬ (9223372036854775807 < acc.size + dx.size) := by omega
        clear hsz hsz2 c0
        go_wp2_with fail
        refine (HWX.out _).mono ?_
        rintro e w3 ⟨rfl, hw⟩
        subst w3
        go_wp2
        exact ⟨⟨k + 1, by omega, by go_num, by rw [HN.out]⟩, by simp [intOf]; omega⟩
      · obtain rfl : k = l.length := by omega
        rw [List.take_length]
        go_wp2
        go_ret2
        rw [HMR.out]
        exact ⟨rfl, hb2.out⟩
end Go.Proofs.Ytfcnodiepdnegaa
