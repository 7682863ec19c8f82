/- The program's Hex. -/
import Derived.Test.YtfcnodiepdnegaaBitP4
import Derived.Test.YtfcnodiepdnegaaBitText2
import Derived.Lib.JoinLaws
import Derived.Deep.AppendLies
namespace Go.Proofs.Ytfcnodiepdnegaa
open Go.RowKit
set_option linter.unusedVariables false
set_option maxRecDepth 100000

theorem byteInfo : (Try.prog.info? 5).map (fun i => (i.zero, i.size, i.bytes)) = some (some (.int .u8 0), 1, 1) := by kernel_rfl
/-- A slice of bytes of this call's own. -/
def OwnsB (base : Nat) (w : World) (v : Value) (l : List UInt8) : Prop := w.ownsRow base 5 1 v l.length (l.map fun b => Value.int .u8 (b.toNat : Int))
theorem OwnsB.form {base : Nat} {w : World} {v : Value} {l : List UInt8} (h : OwnsB base w v l) (h0 : 0 < l.length) : ∃ g cap, v = .slice (some ⟨g, 0, none⟩) l.length cap ∧ base ≤ g ∧ g < w.heap.size ∧ l.length ≤ cap ∧ cap ≤ maxLen ∧
    ∀ j, ∀ hj : j < l.length, w.cell? ⟨g, j, none⟩ = some (.int .u8 (l[j].toNat : Int)) := by
  rcases h.2 with ⟨-, h1⟩ | ⟨g, cap, cur, hv, hbg, hg, hnc, hcm, hcs, htake⟩
  · omega
  · refine ⟨g, cap, hv, hbg, (Array.getElem?_eq_some_iff.1 hg).1, hnc, hcm, fun j hj => ?_⟩
    have := World.ownsRow.cells h (g := g) (by rw [hv]; rfl) j (.int .u8 (l[j].toNat : Int)) (by rw [List.getElem?_map, List.getElem?_eq_getElem hj]; rfl)
    rw [← this]
    unfold Addr.add
    split <;> simp_all
theorem convB (W : World) (g n cap : Nat) (l : List UInt8) (hn : l.length = n) (h : ∀ j, ∀ hj : j < l.length, W.cell? ⟨g, j, none⟩ = some (.int .u8 (l[j].toNat : Int))) :
    (convert 63 9 (.slice (some ⟨g, 0, none⟩) n cap)).run Try.prog W = .ok (.string (bs l)) W := by
  subst hn
  refine run_convert_bytes_back W 63 9 5 ⟨g, 0, none⟩ cap l Try.underlying63 Try.underlying5 Try.underlying9 ?_
  intro j hj
  rw [← h j hj]
  unfold Addr.add
  split <;> simp_all
theorem ownsB_room {base : Nat} (w : World) (c : Nat) (hb : base ≤ w.heap.size) (hc : c ≤ maxLen) : OwnsB base (w.alloc (.cells (madeCells #[.int .u8 0] c) 5)) (.slice (some ⟨w.heap.size, 0, none⟩) 0 c) [] := by
  refine ⟨rfl, .inr ⟨w.heap.size, c, _, rfl, hb, heap_alloc_new w _, Nat.zero_le _, hc, ?_, ?_⟩⟩
  · rw [← Array.length_toList, toList_madeCells_one, List.length_replicate, Nat.mul_one]
  · rfl
/-- The digits of the first k words and the first m digits of the next one. -/
def hexK (l : List UInt64) (k : Nat) (x : UInt64) (m : Nat) : List UInt8 := BM.hexL (l.take k) ++ (List.range m).map fun j => BM.dig (BM.nib x j)
theorem hexK_len (l : List UInt64) (k : Nat) (x : UInt64) (m : Nat) : (hexK l k x m).length ≤ 16 * k + m := by
  unfold hexK
  rw [List.length_append, BM.hexL_len, List.length_take, List.length_map, List.length_range]
  omega
theorem hexK_next (l : List UInt64) (k : Nat) (x : UInt64) (m : Nat) : hexK l k x (m + 1) = hexK l k x m ++ [BM.dig (BM.nib x m)] := by
  unfold hexK
  rw [List.range_succ, List.map_append, ← List.append_assoc]
  rfl
theorem hexK_zero (l : List UInt64) (k : Nat) (x : UInt64) : hexK l k x 0 = BM.hexL (l.take k) := by
  unfold hexK
  simp
theorem hexK_full (l : List UInt64) (k : Nat) (hk : k < l.length) : hexK l k l[k] 16 = BM.hexL (l.take (k + 1)) := by
  unfold hexK
  rw [List.take_succ_eq_append_getElem hk]
  unfold BM.hexL BM.hexW
  rw [List.flatMap_append]
  simp
theorem dig_at : ∀ k, (hk : k < 16) → ((⟨#[48, 49, 50, 51, 52, 53, 54, 55, 56, 57, 97, 98, 99, 100, 101, 102]⟩ : ByteArray)[k]'(by simpa [ByteArray.size] using hk)) = BM.dig k := by decide
set_option maxHeartbeats 2000000 in
theorem pHex_any (B : Nat) (v : Value) (L : Int) (l : List UInt64) (w : World) (_ : PEnv w) (ha : IsBits B w v L l) (hB : B ≤ w.heap.size) :
    Calls Try.prog 30 #[v] w fun e w' => e = .returned (hexM L l) ∧ Below w.heap.size w w' := by
  obtain ⟨A, c, rfl, HI, h1, h2, hL, HC⟩ := ha.open_
  clear ha
  obtain ⟨i0, hi0, hz0, hz1, hz2⟩ := info_parts byteInfo
  have hb : Below w.heap.size w (w.alloc (.cells #[.int .i64 L, .slice A l.length c] 25)) := (Below.refl _ w).alloc (Nat.le_refl _) _
  have HV := Lib.hid (fun W h hB => pValid_any B (.agg #[.int .i64 L, .slice A l.length c]) L l W trivial h hB)
  have HK := Lib.hid (HI.out.keep (hb.mono hB))
  have HM := Lib.hid (show hexM L l = if BM.okB L l then .tuple #[.string (bs (BM.hexL l)), .int .i64 0] else .tuple #[.string ⟨#[]⟩, .int .i64 8] from rfl)
  go_enter Try.func30, Try.ntmps30
  go_wp2_with fail
  obtain ⟨W1, hW1⟩ : ∃ W, W = w.alloc (.cells #[.int .i64 L, .slice A l.length c] 25) := ⟨_, rfl⟩
  have z1 : W1.cell? ⟨w.heap.size, 1, none⟩ = some (.slice A l.length c) := by rw [hW1]; exact new_cellW w _ _ 1 _ rfl
  have hs1 : W1.heap.size = w.heap.size + 1 := by rw [hW1]; simp
  rw [← hW1] at hb HK ⊢
  clear hW1
  refine (HV.out _ HK.out (by omega)).mono ?_
  rintro e w2 ⟨rfl, b2⟩
  have hb2 := same_of hb b2
  have y1 := (b2.cell (p := ⟨w.heap.size, 1, none⟩) (by show w.heap.size < W1.heap.size; omega)).trans z1
  have hs2 := b2.size
  clear z1
  cases hok : BM.okB L l
  · have HR := Lib.hid (show hexM L l = .tuple #[.string ⟨#[]⟩, .int .i64 8] by rw [HM.out, hok]; rfl)
    go_wp2
    go_ret2
    exact ⟨by rw [HR.out]; rfl, hb2⟩
  · have HR := Lib.hid (show hexM L l = .tuple #[.string (bs (BM.hexL l)), .int .i64 0] by rw [HM.out, hok]; rfl)
    have hl8 : 1 ≤ l.length ∧ l.length ≤ 8 := by rw [BM.okB_iff] at hok; omega
    obtain ⟨N, hN⟩ : ∃ N, N = l.length * 16 := ⟨_, rfl⟩
    have hNi : (l.length : Int) * 16 = (N : Int) := by omega
    have hN128 : N ≤ 128 := by omega
    have HN := Lib.hid hN
    have hmk := run_make_room (P := Try.prog) 63 5 (.int .u8 0) 1 Try.underlying63 byteInfo rfl .i64 .i64 N (by omega) (by omega)
    have HOW := Lib.hid (ownsB_room (base := w2.heap.size) w2 N (Nat.le_refl _) (by unfold maxLen; omega))
    have y1' : (w2.alloc (.cells (madeCells #[.int .u8 0] N) 5)).cell? ⟨w.heap.size, 1, none⟩ = some (.slice A l.length c) := cell_oneW y1
    have hb3 : Below w.heap.size w (w2.alloc (.cells (madeCells #[.int .u8 0] N) 5)) := hb2.alloc (by omega) _
    have hs3 : (w2.alloc (.cells (madeCells #[.int .u8 0] N) 5)).heap.size = w2.heap.size + 1 := by simp
    clear hok HM hN
    have HW2 := Lib.hid (And.intro hb3 hs3)
    have hfull := Lib.hid (show BM.hexL (l.take l.length) = BM.hexL l by rw [List.take_length])
    go_wp2_with fail
    clear y1 y1' hb3 hb2 hb b2 hs3 hmk HK HV HI
    go_loopw [4, 19] (fun tv iv wr => ∃ (k : Nat) (acc : List UInt8), k ≤ l.length ∧ iv = .int .i64 k ∧ acc = BM.hexL (l.take k) ∧ OwnsB w2.heap.size wr tv acc ∧ w2.heap.size ≤ wr.heap.size ∧ Below w.heap.size w wr) (fun _ iv _ => l.length - (intOf iv).toNat)
    case atStart => exact ⟨0, [], Nat.zero_le _, rfl, rfl, HOW.out, by rw [HW2.out.2]; omega, HW2.out.1⟩
    case round =>
      obtain ⟨k, acc, hk, rfl, hacc, hown, hsz, hbw⟩ := hrel
      have HA := Lib.hid hacc
      have HO := Lib.hid hown
      clear hacc hown
      by_cases hlt : k < l.length
      · obtain ⟨b, o, rfl, hbB, c0⟩ := HC.out k hlt
        have c1 := (hbw.cell (p := ⟨b, o + k, none⟩) (by show b < w.heap.size; omega)).trans c0
        have HFK := Lib.hid (hexK_full l k hlt)
        have HZK := Lib.hid (hexK_zero l k l[k])
        have HNX := Lib.hid (fun m => hexK_next l k l[k] m)
        have HLN := Lib.hid (fun m => hexK_len l k l[k] m)
        generalize l[k] = x at *
        have i1 : (k : Int) < (l.length : Int) := by omega
        clear c0
        obtain ⟨W0, hW0⟩ : ∃ W, W = wr := ⟨_, rfl⟩
        rw [← hW0] at hbw HO hsz c1 ⊢
        clear hW0
        go_wp2_with fail
        have HBW := Lib.hid hbw
        clear hbw c1
        go_loopw [4, 7] (fun tv sv wr => ∃ (m : Nat) (acc2 : List UInt8), m ≤ 16 ∧ sv = .int .i64 (60 - 4 * m) ∧ acc2 = hexK l k x m ∧ OwnsB w2.heap.size wr tv acc2 ∧ w2.heap.size ≤ wr.heap.size ∧ Below w.heap.size w wr) (fun _ sv _ => (intOf sv + 4).toNat)
        case atStart => exact ⟨0, acc, by omega, rfl, by rw [HA.out, HZK.out], HO.out, hsz, HBW.out⟩
        case round =>
          obtain ⟨m, acc2, hm, rfl, hacc2, hown2, hsz2, hbw2⟩ := hrel
          have HA2 := Lib.hid hacc2
          have HO2 := Lib.hid hown2
          have HBW2 := Lib.hid hbw2
          have hal : acc2.length ≤ 200 := by
            rw [hacc2]
            have := HLN.out m
            omega
          clear hacc2 hown2 hbw2
          by_cases hlt2 : m < 16
          · obtain ⟨J, hJ⟩ : ∃ J : Nat, J = 60 - 4 * m := ⟨_, rfl⟩
            have hJi : (60 : Int) - 4 * (m : Int) = (J : Int) := by omega
            have hnib := nib_walk x m hlt2
            rw [← hJ] at hnib
            have hnl := nib_lt x m
            have HNM := Lib.hid (HNX.out m)
            have hdg := dig_at (BM.nib x m) hnl
            have hJ60 : J ≤ 60 := by omega
            have HJ := Lib.hid hJ
            generalize hz : BM.dig (BM.nib x m) = z at *
            have HZ := Lib.hid hz
            clear hz
            generalize BM.nib x m = d at *
            have i2 : (d : Int) < 16 := by omega
            clear hJ
            go_wp2_with (at_builtin; refine wpList_append_own _ rfl _ _ 63 rfl w2.heap.size 5 i0 (.int .u8 0) 1 1 Try.underlying63 hi0 hz0 hz1 hz2 rfl (by decide) _ _ _ rfl (HO2.out.alloc _) ⟨wr.heap.size, 0, none⟩ 1 1 [.int .u8 (z.toNat : Int)] rfl rfl ?c1 ?c2 ?c3 ?c4 ?c5 ?_)
            case c1 =>
              intro j u hj
              match j, hj with
              | 0, hj => simp at hj; subst hj; simp [Addr.add]
            case c2 => intro u hu; simp at hu; subst hu; rfl
            case c3 => unfold maxLen; omega
            case c4 => omega
            case c5 => simp; omega
            intro v' w4 hown' hgrow _
            have hgs := hgrow.size
            go_wp2
            refine ⟨⟨m + 1, acc2 ++ [z], by omega, by have := HJ.out; go_num, by rw [HNM.out, HA2.out], ?_, ?_, ?_⟩, by have := HJ.out; simp [intOf]; omega⟩
            · unfold OwnsB
              rw [List.map_append, List.map_cons, List.map_nil]
              simpa using hown'
            · simp at hgs
              omega
            · exact (HBW2.out.alloc (by omega) _).grown hgrow (by simp; omega) (fun g hg => Nat.le_trans (by omega) (HO2.out.lt g hg).1)
          · obtain rfl : m = 16 := by omega
            go_wp2
            exact ⟨⟨k + 1, acc2, by omega, by go_num, by rw [HA2.out, HFK.out], HO2.out, hsz2, HBW2.out⟩, by simp [intOf]; omega⟩
      · obtain rfl : k = l.length := by omega
        have e : acc = BM.hexL l := by rw [HA.out, hfull.out]
        have hln : acc.length = 16 * l.length := by rw [e, BM.hexL_len]
        obtain ⟨g, cap, rfl, -, -, hcap, hcm, hcell⟩ := HO.out.form (by omega)
        have hcv := convB wr g acc.length cap acc rfl hcell
        have HE := Lib.hid e
        unfold maxLen at hcm
        clear e hcell HO HA hln hk hlt
        generalize acc.length = Q at *
        go_wp2
        go_ret2
        exact ⟨by rw [HR.out, ← HE.out]; rfl, hbw⟩
end Go.Proofs.Ytfcnodiepdnegaa
