/- Raw texts that a deck deals; keys that it deals. -/
import Derived.Test.YtlcfpdbiippenaaSipDer
import Derived.Test.YtlcfpdbiippenaaEBase
namespace Go.Proofs.Ytlcfpdbiippenaa
open Go.RowKit
set_option linter.unusedVariables false
set_option maxRecDepth 100000

def preL : List ByteArray := [⟨#[]⟩, ⟨#[]⟩, ⟨#[32]⟩, ⟨#[45]⟩, ⟨#[39]⟩]
def midL (a b : ByteArray) : List ByteArray := [a, b, ⟨#[49, 50]⟩, ⟨#[48, 48, 55]⟩, ⟨#[51, 98]⟩, ⟨#[77, 195, 188, 108, 108, 101, 114]⟩, ⟨#[195, 134, 103, 105, 114]⟩, ⟨#[195, 159]⟩, ⟨#[79, 39, 78, 101, 105, 108, 108]⟩, ⟨#[195, 151]⟩]
def sufL : List ByteArray := [⟨#[32]⟩, ⟨#[32]⟩, ⟨#[46]⟩, ⟨#[44, 32]⟩]
def badL : List ByteArray := [⟨#[31]⟩, ⟨#[127]⟩, ⟨#[194, 160]⟩, ⟨#[255]⟩, ⟨#[10]⟩]
theorem pre_size : ∀ s ∈ preL, s.size ≤ 1 := by decide
theorem suf_size : ∀ s ∈ sufL, s.size ≤ 2 := by decide
theorem bad_size : ∀ s ∈ badL, s.size ≤ 2 := by decide
theorem mid_size {a b : ByteArray} (ha : a.size ≤ 8) (hb : b.size ≤ 8) : ∀ s ∈ midL a b, s.size ≤ 8 := by
  intro s hs
  rcases List.mem_cons.1 hs with rfl | hs
  · exact ha
  rcases List.mem_cons.1 hs with rfl | hs
  · exact hb
  · have : ∀ s ∈ ([⟨#[49, 50]⟩, ⟨#[48, 48, 55]⟩, ⟨#[51, 98]⟩, ⟨#[77, 195, 188, 108, 108, 101, 114]⟩, ⟨#[195, 134, 103, 105, 114]⟩, ⟨#[195, 159]⟩, ⟨#[79, 39, 78, 101, 105, 108, 108]⟩, ⟨#[195, 151]⟩] : List ByteArray), s.size ≤ 8 := by decide
    exact this s hs

set_option maxHeartbeats 2000000 in
theorem Text_any (g : Nat) (w : World) (h : Deck g w) :
    Calls Try.prog 20 #[.pointer (some ⟨g, 0, none⟩)] w fun e w' => ∃ s, e = .returned (.string s) ∧ s.size ≤ 64 ∧ Deck g w' ∧ w.grownBy w' (some g) := by
  have HD := Lib.hid h
  clear h
  go_enter Try.func20, Try.ntmps20
  go_wp2_with fail
  refine (Next_any g w HD.out 5 (by omega) (by omega)).mono ?_
  rintro e w1 ⟨x, rfl, ⟨hx0, hx1⟩, hd1, hg1⟩
  obtain ⟨m, rfl⟩ := Int.eq_ofNat_of_zero_le hx0
  have hm : m < 5 := by omega
  go_wp2
  go_loopw [3, 4] (fun o i wr => ∃ (k : Nat) (so : ByteArray), so.size + 11 * k ≤ 44 ∧ i = .int .i64 k ∧ o = .string so ∧ Deck g wr ∧ w.grownBy wr (some g)) (fun _ i _ => (intOf i).toNat)
  case atStart => exact ⟨m, ⟨#[]⟩, by simp [ByteArray.size]; omega, by go_num, rfl, hd1, hg1⟩
  case round =>
    obtain ⟨k, so, hk, rfl, rfl, hd, hg⟩ := hrel
    by_cases h0 : 0 < k
    · go_wp2_with fail
      refine (Pick_lit g wr preL hd (by decide) (by decide)).mono ?_
      rintro e w2 ⟨s1, hs1, rfl, hd2, hg2⟩
      have z1 := pre_size s1 hs1
      clear hs1
      have hg2 := grown_trans hg hg2
      go_wp2_with fail
      refine (Token_any g w2 hd2).mono ?_
      rintro e w3 ⟨ta, rfl, hta, hd3, hg3⟩
      have za := low_size hta
      clear hta
      have hg3 := grown_trans hg2 hg3
      go_wp2_with fail
      refine (Token_any g w3 hd3).mono ?_
      rintro e w4 ⟨tb, rfl, htb, hd4, hg4⟩
      have zb := low_size htb
      clear htb
      have hg4 := grown_trans hg3 hg4
      go_wp2_with fail
      refine (Pick_lit g w4 (midL ta tb) hd4 (by simp [midL]) (by simp [midL])).mono ?_
      rintro e w5 ⟨s2, hs2, rfl, hd5, hg5⟩
      have z2 := mid_size za zb s2 hs2
      clear hs2
      have hg5 := grown_trans hg4 hg5
      go_wp2_with fail
      refine (Pick_lit g w5 sufL hd5 (by decide) (by decide)).mono ?_
      rintro e w6 ⟨s3, hs3, rfl, hd6, hg6⟩
      have z3 := suf_size s3 hs3
      clear hs3
      have hg6 := grown_trans hg5 hg6
      go_wp2
      refine ⟨⟨k - 1, _, ?_, by go_num, rfl, hd6, hg6⟩, by simp [intOf]; omega⟩
      rw [size_add, size_add, size_add]
      omega
    · go_wp2_with fail
      refine (Next_any g wr hd 12 (by omega) (by omega)).mono ?_
      rintro e w2 ⟨y, rfl, ⟨hy0, hy1⟩, hd2, hg2⟩
      have hso : so.size ≤ 44 := by omega
      have hg2 := grown_trans hg hg2
      clear hk
      by_cases y0 : y = 0
      · subst y0
        go_wp2
        go_ret
        exact ⟨_, rfl, by rw [size_add]; show _ + 1 ≤ _; omega, hd2, hg2⟩
      · by_cases y1 : y = 1
        · subst y1
          go_wp2_with fail
          refine (Pick_lit g w2 badL hd2 (by decide) (by decide)).mono ?_
          rintro e w3 ⟨s1, hs1, rfl, hd3, hg3⟩
          have z1 := bad_size s1 hs1
          clear hs1
          go_wp2
          go_ret
          exact ⟨_, rfl, by rw [size_add]; omega, hd3, grown_trans hg2 hg3⟩
        · by_cases y2 : y = 2
          · subst y2
            go_wp2
            go_loop [3] (fun o => ∃ so : ByteArray, o = .string so ∧ so.size ≤ 64) (fun o => match o with | .string b => 64 - b.size | _ => 0)
            case atStart => exact ⟨so, rfl, by omega⟩
            case round =>
              obtain ⟨so, rfl, hz⟩ := hrel
              by_cases hlt : so.size < 64
              · go_wp2
                refine ⟨⟨_, rfl, ?_⟩, ?_⟩
                · rw [size_add]; show _ + 1 ≤ _; omega
                · show 64 - (so ++ ⟨#[97]⟩ : ByteArray).size < 64 - so.size
                  rw [size_add]; show 64 - (so.size + 1) < _; omega
              · go_wp2
                go_ret
                exact ⟨_, rfl, hz, hd2, hg2⟩
          · have t0 : (y == 0) = false := by simp; exact y0
            have t1 : (y == 1) = false := by simp; exact y1
            have t2 : (y == 2) = false := by simp; exact y2
            clear y0 y1 y2
            go_wp2
            go_ret
            exact ⟨_, rfl, by omega, hd2, hg2⟩

theorem as64 {x : Int} (h : 0 ≤ x ∧ x < 18446744073709551616) : ∃ u : UInt64, x = n64 u := ⟨UInt64.ofNat x.toNat, by
  show x = ((UInt64.ofNat x.toNat).toNat : Int)
  rw [UInt64.toNat_ofNat']
  omega⟩

set_option maxHeartbeats 1000000 in
theorem Key_any (g : Nat) (w : World) (h : Deck g w) :
    Calls Try.prog 12 #[.pointer (some ⟨g, 0, none⟩)] w fun e w' => ∃ kA kB, e = .returned (keyV kA kB) ∧ Deck g w' ∧ w.grownBy w' (some g) := by
  have HD := Lib.hid h
  clear h
  have hlt := Lib.hid HD.out.lt
  have HW := Lib.hid (HD.out.alloc (.cells #[.int .u64 0, .int .u64 0] 25))
  go_enter Try.func12, Try.ntmps12
  go_wp2_with fail
  refine (Word_any g _ HW.out).mono ?_
  rintro e w1 ⟨x, rfl, hx, hd1, hg1⟩
  obtain ⟨kA, rfl⟩ := as64 hx
  clear hx
  have HD1 := Lib.hid hd1
  have HG1 := Lib.hid hg1
  clear hd1 hg1
  go_wp2_with fail
  refine (Word_any g _ HD1.out).mono ?_
  rintro e w2 ⟨x, rfl, hx, hd2, hg2⟩
  obtain ⟨kB, rfl⟩ := as64 hx
  clear hx
  have hg3 := grown_trans HG1.out hg2
  have hres : w2.heap[w.heap.size]? = some (.cells #[.int .u64 0, .int .u64 0] 25 (0, 0)) := (hg3.block w.heap.size (by simp) (by have := hlt.out; intro e; injection e; omega)).trans (heap_alloc_new w _)
  have z0 := key_cell hres 0 (by decide)
  have z1 := key_cell hres 1 (by decide)
  have f0 := Lib.frozen_of_heap hres 0
  have f1 := Lib.frozen_of_heap hres 1
  have HG3 := Lib.hid (grown_trans (grown_alloc (grown_refl w (some g)) _) hg3)
  have HD2 := Lib.hid hd2
  clear hg3 hg2 hd2 hres
  go_wp2_with fail
  have hbs : Below w.heap.size w2 ((w2.setCell ⟨w.heap.size, 0, none⟩ (.int .u64 (n64 kA))).setCell ⟨w.heap.size, 1, none⟩ (.int .u64 (n64 kB))) := ((Below.refl _ w2).setCell (p := ⟨w.heap.size, 0, none⟩) (Nat.le_refl _) _).setCell (p := ⟨w.heap.size, 1, none⟩) (Nat.le_refl _) _
  exact bodyPost_ret (v := keyV kA kB) (by simp [results, Try.results12, keyV, go_sem, z0, z1]) rfl ⟨kA, kB, rfl, HD2.out.below hbs hlt.out, grown_below HG3.out hbs (Nat.le_refl _)⟩
end Go.Proofs.Ytlcfpdbiippenaa
