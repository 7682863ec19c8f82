/- What layer 7 wants of the deck's tokens (a seat without the texts of layer 1): one byte as a text, one byte of a text, tokens. -/
import Derived.Test.YtlcfpdbiippenaaDBase
import Derived.Test.YtlcfpdbiippenaaTextMath
namespace Go.Proofs.Ytlcfpdbiippenaa
open Go.RowKit
set_option maxRecDepth 100000

/-- string([]byte{x}): the one cell of the new block. -/
theorem conv1 (W : World) (c : UInt8) (x : Int) (h : x = (c.toNat : Int)) :
    (convert 26 9 (.slice (some ⟨W.heap.size, 0, none⟩) 1 1)).run Try.prog (W.alloc (.cells #[.int .u8 x] 5)) = .ok (.string ⟨#[c]⟩) (W.alloc (.cells #[.int .u8 x] 5)) := by
  subst h
  refine run_convert_bytes_back (W.alloc (.cells #[.int .u8 (c.toNat : Int)] 5)) 26 9 5 ⟨W.heap.size, 0, none⟩ 1 [c] Try.underlying26 Try.underlying5 Try.underlying9 ?_
  intro j hj
  match j, hj with
  | 0, _ => simp [Addr.add]

theorem extract_one (s : ByteArray) (k : Nat) (h : k < s.size) : s.extract k (k + 1) = ⟨#[s[k]]⟩ := by
  have e := Lib.extract_data s k (k + 1)
  rw [drop_at s k h, Nat.add_sub_cancel_left] at e
  cases hx : s.extract k (k + 1)
  rw [hx] at e
  congr 1
  exact Array.toList_inj.1 (by simpa using e)

theorem below_drewN {B : Nat} {a w : World} (h : Below B a w) (n : Nat) : Below B a (w.drewN n) := ⟨h.os, h.tape, h.output, h.size, h.block⟩

/-- One to eight letters from a to z. -/
def lowB (s : ByteArray) : Bool := decide (1 ≤ s.data.toList.length) && decide (s.data.toList.length ≤ 8) && s.data.toList.all TM.lower

def givenL : List ByteArray := [⟨#[114, 111, 98, 101, 114, 116]⟩, ⟨#[98, 111, 98]⟩, ⟨#[97, 110, 110]⟩, ⟨#[97, 110, 110, 97]⟩, ⟨#[114, 117, 112, 101, 114, 116]⟩, ⟨#[109, 97, 114, 105, 97]⟩, ⟨#[112, 101, 116, 101, 114]⟩, ⟨#[100, 114]⟩, ⟨#[106, 111]⟩, ⟨#[97, 115, 104, 99, 114, 97, 102, 116]⟩, ⟨#[108, 105]⟩]
def familyL : List ByteArray := [⟨#[115, 109, 105, 116, 104]⟩, ⟨#[115, 99, 104, 109, 105, 100, 116]⟩, ⟨#[109, 105, 108, 108, 101, 114]⟩, ⟨#[111, 110, 101, 105, 108, 108]⟩, ⟨#[115, 116, 114, 97, 117, 115, 115]⟩, ⟨#[118, 97, 110]⟩, ⟨#[109, 97, 105, 110]⟩, ⟨#[115, 116]⟩, ⟨#[115, 116, 114, 101, 101, 116]⟩, ⟨#[114, 100]⟩, ⟨#[112, 97, 114, 107]⟩]
theorem given_low : ∀ s ∈ givenL, lowB s = true := by decide
theorem family_low : ∀ s ∈ familyL, lowB s = true := by decide

set_option maxHeartbeats 400000 in
theorem given_any (w : World) :
    Calls Try.prog 30 #[] w fun e w' => e = .returned (.slice (some ⟨w.heap.size, 0, none⟩) givenL.length givenL.length) ∧ w.alloc (.cells (givenL.map Value.string).toArray 9) = w' := by
  go_enter Try.func30, Try.ntmps30
  go_wp2
  go_ret
  exact ⟨rfl, rfl⟩
set_option maxHeartbeats 400000 in
theorem family_any (w : World) :
    Calls Try.prog 31 #[] w fun e w' => e = .returned (.slice (some ⟨w.heap.size, 0, none⟩) familyL.length familyL.length) ∧ w.alloc (.cells (familyL.map Value.string).toArray 9) = w' := by
  go_enter Try.func31, Try.ntmps31
  go_wp2
  go_ret
  exact ⟨rfl, rfl⟩

theorem low_snoc (so : ByteArray) (c : UInt8) (j : Nat) (hj : j < 26) (hn : c.toNat = 97 + j) (h : so.data.toList.all TM.lower = true) : (so ++ ⟨#[c]⟩ : ByteArray).data.toList.all TM.lower = true := by
  rw [data_add, List.all_append, h]
  have hl : TM.lower c = true := by
    unfold TM.lower
    rw [hn]
    simp
    omega
  show (true && ([c] : List UInt8).all TM.lower) = true
  simp only [List.all_cons, List.all_nil, hl, Bool.and_self]

set_option maxHeartbeats 2000000 in
theorem Token_any (g : Nat) (w : World) (h : Deck g w) :
    Calls Try.prog 21 #[.pointer (some ⟨g, 0, none⟩)] w fun e w' => ∃ s, e = .returned (.string s) ∧ lowB s = true ∧ Deck g w' ∧ w.grownBy w' (some g) := by
  have HD := Lib.hid h
  clear h
  go_enter Try.func21, Try.ntmps21
  go_wp2_with fail
  refine (One_any g w HD.out 6 (by omega) (by omega)).mono ?_
  rintro e w1 ⟨b1, rfl, hd1, hg1⟩
  cases b1
  · go_wp2_with fail
    refine (One_any g w1 hd1 2 (by omega) (by omega)).mono ?_
    rintro e w2 ⟨b2, rfl, hd2, hg2⟩
    have hg12 := grown_trans hg1 hg2
    cases b2
    · go_wp2_with fail
      refine (family_any w2).mono ?_
      rintro e w3 ⟨rfl, rfl⟩
      go_wp2_with fail
      refine (family_any _).mono ?_
      rintro e w3 ⟨rfl, rfl⟩
      go_wp2_with fail
      refine (Next_any g _ ((hd2.alloc _).alloc _) 11 (by omega) (by omega)).mono ?_
      rintro e w3 ⟨x, rfl, ⟨hx0, hx1⟩, hd3, hg3⟩
      obtain ⟨j, rfl⟩ := Int.eq_ofNat_of_zero_le hx0
      have hj : j < familyL.length := by show j < 11; omega
      have hcell : w3.cell? ⟨w2.heap.size, 0 + j, none⟩ = some (.string familyL[j]) := by
        have ht := ((texts_lit w2 familyL (by decide)).keep ((Below.refl _ _).alloc (by simp) (.cells (familyL.map Value.string).toArray 9))).grown ((hd2.alloc _).alloc _) hg3 (by simp)
        obtain ⟨b, o, c, hv, _, _, _, hc⟩ := ht.at_ (by decide)
        injection hv with hv _ _
        injection hv with hv
        injection hv with hb ho _
        subst hb ho
        exact hc j hj
      rw [Nat.zero_add] at hcell
      have hlow := family_low familyL[j] (List.getElem_mem hj)
      have HLow := Lib.hid hlow
      clear hlow
      generalize familyL[j] = F at *
      go_wp2
      go_ret
      exact ⟨F, rfl, HLow.out, hd3, grown_trans (grown_alloc (grown_alloc hg12 _) _) hg3⟩
    · go_wp2_with fail
      refine (given_any w2).mono ?_
      rintro e w3 ⟨rfl, rfl⟩
      go_wp2_with fail
      refine (given_any _).mono ?_
      rintro e w3 ⟨rfl, rfl⟩
      go_wp2_with fail
      refine (Next_any g _ ((hd2.alloc _).alloc _) 11 (by omega) (by omega)).mono ?_
      rintro e w3 ⟨x, rfl, ⟨hx0, hx1⟩, hd3, hg3⟩
      obtain ⟨j, rfl⟩ := Int.eq_ofNat_of_zero_le hx0
      have hj : j < givenL.length := by show j < 11; omega
      have hcell : w3.cell? ⟨w2.heap.size, 0 + j, none⟩ = some (.string givenL[j]) := by
        have ht := ((texts_lit w2 givenL (by decide)).keep ((Below.refl _ _).alloc (by simp) (.cells (givenL.map Value.string).toArray 9))).grown ((hd2.alloc _).alloc _) hg3 (by simp)
        obtain ⟨b, o, c, hv, _, _, _, hc⟩ := ht.at_ (by decide)
        injection hv with hv _ _
        injection hv with hv
        injection hv with hb ho _
        subst hb ho
        exact hc j hj
      rw [Nat.zero_add] at hcell
      have hlow := given_low givenL[j] (List.getElem_mem hj)
      have HLow := Lib.hid hlow
      clear hlow
      generalize givenL[j] = F at *
      go_wp2
      go_ret
      exact ⟨F, rfl, HLow.out, hd3, grown_trans (grown_alloc (grown_alloc hg12 _) _) hg3⟩
  · go_wp2_with fail
    refine (Next_any g w1 hd1 5 (by omega) (by omega)).mono ?_
    rintro e w2 ⟨x, rfl, ⟨hx0, hx1⟩, hd2, hg2⟩
    obtain ⟨m, rfl⟩ := Int.eq_ofNat_of_zero_le hx0
    have hm : m < 5 := by omega
    have hg12 := grown_trans hg1 hg2
    go_wp2
    go_loopw [3, 4] (fun o i wr => ∃ (k : Nat) (so : ByteArray), so.size + k = m + 1 ∧ i = .int .i64 k ∧ o = .string so ∧ so.data.toList.all TM.lower = true ∧ Deck g wr ∧ w.grownBy wr (some g)) (fun _ i _ => (intOf i).toNat)
    case atStart => exact ⟨m + 1, ⟨#[]⟩, by simp [ByteArray.size], by go_num, rfl, by simp, hd2, hg12⟩
    case round =>
      obtain ⟨k, so, hk, rfl, rfl, hall, hd, hg⟩ := hrel
      have HA := Lib.hid hall
      clear hall
      have hso : so.size + k ≤ 5 := by omega
      have HK := Lib.hid hk
      clear hk
      by_cases h0 : 0 < k
      · go_wp2_with fail
        refine (Next_any g wr hd 26 (by omega) (by omega)).mono ?_
        rintro e w3 ⟨y, rfl, ⟨hy0, hy1⟩, hd3, hg3⟩
        obtain ⟨j, rfl⟩ := Int.eq_ofNat_of_zero_le hy0
        have hj : j < 26 := by omega
        obtain ⟨c, hc⟩ : ∃ c : UInt8, c.toNat = 97 + j := ⟨UInt8.ofNat (97 + j), by rw [UInt8.toNat_ofNat']; omega⟩
        have k1 : ∀ W : World, _ := fun W => conv1 W c (97 + (j : Int)) (by omega)
        have HCn := Lib.hid hc
        clear hc
        go_wp2
        refine ⟨⟨k - 1, _, ?_, by go_num, rfl, low_snoc so c j hj HCn.out HA.out, hd3.alloc _, grown_alloc (grown_trans hg hg3) _⟩, by simp [intOf]; omega⟩
        have := HK.out
        rw [size_add]
        show so.size + 1 + (k - 1) = _
        omega
      · go_wp2
        go_ret
        refine ⟨so, rfl, ?_, hd, hg⟩
        have h1 := HK.out
        have h2 : so.data.toList.length = so.size := by simp
        unfold lowB
        rw [HA.out, h2]
        simp
        omega

theorem low_size {s : ByteArray} (h : lowB s = true) : s.size ≤ 8 := by
  unfold lowB at h
  simp at h
  exact h.1.2
end Go.Proofs.Ytlcfpdbiippenaa
