/- The walk of NameNicknames. -/
import Derived.Test.YtfdlmneahanboaaDoorNameLaw
namespace Go.Proofs.YtfdlmneahanboaaDoor
open Go.RowKit
set_option linter.unusedVariables false

theorem Box.grown {W W' : World} {p g : Nat} {tv nv sv : Value} (h : Box W p tv nv sv) (hb : W.grownBy W' (some g)) (hp : p < W.heap.size) (hg : p ≠ g) : Box W' p tv nv sv := by
  have k : ∀ i, W'.cell? ⟨p, i, none⟩ = W.cell? ⟨p, i, none⟩ := fun i => World.cell?_of_block (a := ⟨p, i, none⟩) (w := W) (w' := W') (hb.block p hp (fun e => hg (by injection e)))
  exact ⟨(k 0).trans h.1, (k 1).trans h.2.1, (k 2).trans h.2.2⟩
theorem norm_spaced {r : RL} (h : Dealt r) (s : ByteArray) (ts : List ByteArray) (hd : s.data.toList = spacedL ts) (hs : s.size ≤ 64) (hl : ∀ t ∈ ts, lowB t = true) (hlen : ts.length ≤ 6) : normVal r s = (joinB (keepB r ts), 0) :=
  norm_dealt h s ts (by rw [hd]; exact spaced_fine ts hl) hs (by rw [hd]; exact words_spaced ts hl) hl hlen
theorem all_snoc {ts : List ByteArray} {t : ByteArray} (h : ∀ x ∈ ts, lowB x = true) (ht : lowB t = true) : ∀ x ∈ ts ++ [t], lowB x = true := by
  intro x hx
  rcases List.mem_append.1 hx with hx | hx
  · exact h x hx
  · obtain rfl : x = t := by simpa using hx
    exact ht

set_option maxRecDepth 100000 in
set_option maxHeartbeats 2000000 in
theorem NameNicknames_walk (A : Option Addr) (n c : Nat) (w : World) (hE : Env w) (hI : IntsArg w A n c) :
    Calls Tryd.prog 6 #[.slice A n c] w fun e w' => e = .returned (.bool true) ∧ Below w.heap.size w w' := by
  have HE := Lib.hid hE
  have HI := Lib.hid hI
  clear hE hI
  go_enter Tryd.func6, Tryd.ntmps6
  go_wp2_with fail
  refine (awake2_any w HE.out).mono ?_
  rintro e w1 ⟨rfl, b1⟩
  go_wp2_with fail
  refine (Few_any A n c w1 (Nat.le_trans HI.out.1 HI.out.2.1)).mono ?_
  rintro e w1' ⟨rfl, rfl⟩
  have hE1 := Lib.hid (HE.out.below b1 HE.out.size)
  by_cases hn : n ≤ 400
  · have hd : decide (n ≤ 400) = true := by simp [hn]
    rw [hd]
    clear hd
    go_wp2_with fail
    refine (New_any A n c w1 (HI.out.below b1)).mono ?_
    rintro e w2 ⟨rfl, hd2, b2⟩
    generalize hg : w1.heap.size = g at *
    have HG := Lib.hid hg
    clear hg
    have hgw : w.heap.size ≤ g := by rw [← HG.out]; exact b1.size
    go_wp2_with fail
    refine (Rules_any g w2 hd2).mono ?_
    rintro e w3 ⟨v, r, rfl, hrp, hdl, hd3, g3⟩
    have hr := hrp.plain
    obtain ⟨tv, nv, sv, rfl, ⟨⟨ta, tc, htv, -, -, -⟩, -⟩, ⟨⟨na, nc, hnv, -, -, -⟩, -⟩, ⟨⟨ua, uc, hsv, -, -, -⟩, -⟩⟩ := hrp
    have HDl := Lib.hid hdl
    clear hdl
    have b3 : Below w.heap.size w w3 := (b1.trans (b2.mono hgw)).trans (below_of_grown g3 hgw (Nat.le_trans hgw (Nat.le_of_lt hd2.lt)))
    have b4 : Below w.heap.size w (w3.alloc (.cells #[tv, nv, sv] 26)) := b3.alloc b3.size _
    have HR := Lib.hid (hr.keep (below_alloc w3 (.cells #[tv, nv, sv] 26)))
    have HB := Lib.hid (Box.new w3 tv nv sv)
    have hd4 := hd3.alloc (.cells #[tv, nv, sv] 26)
    have hp : w3.heap.size < (w3.alloc (.cells #[tv, nv, sv] 26)).heap.size := by simp
    have hpg : w3.heap.size ≠ g := by have := hd3.lt; omega
    clear hr
    obtain ⟨W0, hW0⟩ : ∃ W, w3.alloc (.cells #[tv, nv, sv] 26) = W := ⟨_, rfl⟩
    subst htv hnv hsv
    go_wp2_with fail
    rw [hW0] at b4 HR HB hd4 hp
    clear hW0
    generalize Value.slice ta r.titles.length tc = tv at *
    generalize Value.slice na r.nicks.length nc = nv at *
    generalize Value.slice ua r.streets.length uc = sv at *
    generalize hpp : w3.heap.size = p at *
    have HPp := Lib.hid hpp
    clear hpp
    refine (Next_any g W0 hd4 3 (by omega) (by omega)).mono ?_
    rintro e w5 ⟨x, rfl, ⟨hx0, hx1⟩, hd5, g5⟩
    obtain ⟨m, rfl⟩ := Int.eq_ofNat_of_zero_le hx0
    have hm : m < 3 := by omega
    go_wp2
    go_loopw [5, 6, 7] (fun a b i wr => ∃ (k : Nat) (ts : List ByteArray) (sa sb : ByteArray), ts.length + k ≤ 3 ∧ i = .int .i64 k ∧ a = .string sa ∧ b = .string sb ∧ sa.size ≤ 9 * ts.length ∧ sb.size ≤ 9 * ts.length ∧
        (∀ t ∈ ts, lowB t = true) ∧ sa.data.toList = spacedL ts ∧ sb.data.toList = spacedL (ts.map (canonB r.nicks)) ∧ Deck g wr ∧ W0.grownBy wr (some g)) (fun _ _ i _ => (intOf i).toNat)
    case atStart => exact ⟨m + 1, [], ⟨#[]⟩, ⟨#[]⟩, by simp; omega, by go_num, rfl, rfl, by simp [ByteArray.size], by simp [ByteArray.size], by simp, rfl, rfl, hd5, g5⟩
    case round =>
      obtain ⟨k, ts, sa, sb, hk, rfl, rfl, rfl, za, zb, hts, hsa, hsb, hd, hg⟩ := hrel
      have HT := Lib.hid hts
      have HSa := Lib.hid hsa
      have HSb := Lib.hid hsb
      clear hts hsa hsb
      have HBr := Lib.hid (HB.out.grown hg hp hpg)
      have HRr := Lib.hid (HR.out.grown hd4 hg (Nat.le_of_lt hp))
      have hsz := hg.size
      have br : Below w.heap.size w wr := b4.trans (below_of_grown hg hgw b4.size)
      by_cases h0 : 0 < k
      · go_wp2_with fail
        refine (Token_any g wr hd).mono ?_
        rintro e w6 ⟨t, rfl, ht, hd6, g6⟩
        have zt := low_size ht
        have HTk := Lib.hid ht
        clear ht
        have hg6 := grown_trans hg g6
        have hsz6 := hg6.size
        obtain ⟨c0, c1, c2⟩ := HB.out.grown hg6 hp hpg
        go_wp2_with fail
        refine (Canonical_any p _ r t w6 (HR.out.grown hd4 hg6 (Nat.le_of_lt hp)) (by omega)).mono ?_
        rintro e w7 ⟨rfl, b7⟩
        have zc := low_size (canon_low HDl.out HTk.out)
        have hd7 := hd6.below b7 hd6.lt
        have hg7 := grown_below hg6 b7 hsz6
        clear c0 c1 c2
        have HC := Lib.hid (canon_low HDl.out HTk.out)
        generalize hcn : canonB r.nicks t = C at *
        have HCn := Lib.hid hcn
        clear hcn
        go_wp2
        refine ⟨⟨k - 1, ts ++ [t], _, _, by simp; omega, by go_num, rfl, rfl, ?_, ?_, all_snoc HT.out HTk.out, ?_, ?_, hd7, hg7⟩, by simp [intOf]; omega⟩
        · rw [size_add, size_add, List.length_append]; show _ + (_ + 1) ≤ 9 * (_ + 1); omega
        · rw [size_add, size_add, List.length_append]; show _ + (_ + 1) ≤ 9 * (_ + 1); omega
        · rw [data_add, data_add, HSa.out, spaced_snoc]
        · rw [data_add, data_add, HSb.out, List.map_append, List.map_cons, List.map_nil, spaced_snoc, HCn.out]
      · have hEr := Lib.hid (HE.out.below br HE.out.size)
        have hlen : ts.length ≤ 3 := by omega
        have hN1 := Normalise_any p _ r sa wr hEr.out HRr.out (by omega) (by unfold maxLen; omega)
        rw [norm_spaced HDl.out sa ts HSa.out (by omega) HT.out (by omega)] at hN1
        have HN1 := Lib.hid hN1
        clear hN1
        have HV2 := Lib.hid (norm_spaced HDl.out sb (ts.map (canonB r.nicks)) HSb.out (by omega) (fun x hx => by
          obtain ⟨y, hy, rfl⟩ := List.mem_map.1 hx
          exact canon_low HDl.out (HT.out y hy)) (by simp; omega))
        rw [keep_canon HDl.out] at HV2
        unfold normRet at HN1
        generalize joinB (keepB r ts) = J at *
        obtain ⟨c0, c1, c2⟩ := HBr.out
        go_wp2_with fail
        refine HN1.out.mono ?_
        rintro e w6 ⟨rfl, b6⟩
        clear c0 c1 c2
        have b6' := br.trans (b6.mono br.size)
        obtain ⟨c0, c1, c2⟩ := HBr.out.below b6 (by omega)
        have hN2 := Normalise_any p _ r sb w6 (HE.out.below b6' HE.out.size) (HRr.out.keep (b6.mono (by omega))) (by have := b6.size; omega) (by unfold maxLen; omega)
        rw [HV2.out] at hN2
        unfold normRet at hN2
        have HN2 := Lib.hid hN2
        clear hN2
        go_wp2_with fail
        refine HN2.out.mono ?_
        rintro e w7 ⟨rfl, b7⟩
        go_wp2
        go_ret
        exact ⟨rfl, b6'.trans (b7.mono b6'.size)⟩
  · have hd : decide (n ≤ 400) = false := by simp; omega
    rw [hd]
    clear hd
    go_wp2_with fail
    refine (awake2_any w1 hE1.out).mono ?_
    rintro e w2 ⟨rfl, b2⟩
    go_wp2
    go_ret
    exact ⟨rfl, b1.trans (b2.mono b1.size)⟩
end Go.Proofs.YtfdlmneahanboaaDoor
