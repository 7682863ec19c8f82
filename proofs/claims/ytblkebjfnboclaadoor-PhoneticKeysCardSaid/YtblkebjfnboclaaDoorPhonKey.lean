/- Walks of Key and Same, the program's and the reference's. -/
import Derived.Test.YtblkebjfnboclaaDoorPhonRef
import Derived.Test.YtblkebjfnboclaaDoorTextRef3
namespace Go.Proofs.YtblkebjfnboclaaDoor
open Go.RowKit
set_option maxRecDepth 100000

/-- The key of a list of tokens, and of a text. -/
def kyL : List (List UInt8) → ByteArray
  | [] => ⟨#[]⟩
  | l :: _ => sxB (bs l)
def kyB (s : ByteArray) : ByteArray := kyL (TM.words [] s.data.toList)
def smB (a b : ByteArray) : Bool := !(kyB a).toList.isEmpty && (kyB a).toList == (kyB b).toList

theorem lists_cases {B : Nat} {w : World} {v : Value} {L : List (List UInt8)} (h : IsLists B w v L) : (L = [] ∧ ∃ a c, v = .slice a 0 c) ∨
    ∃ l t b o n c, L = l :: t ∧ v = .slice (some ⟨b, o, none⟩) n c ∧ 1 ≤ n ∧ n ≤ c ∧ c ≤ maxLen ∧ b < B ∧ w.cell? ⟨b, o, none⟩ = some (.string (bs l)) := by
  obtain ⟨xs, hx, rfl⟩ := h
  match xs, hx with
  | [], hx =>
    obtain ⟨a, c, hv⟩ := hx.nil_
    exact .inl ⟨rfl, a, c, hv⟩
  | x :: t, hx =>
    obtain ⟨b, o, c, hv, h1, h2, h3, h4⟩ := hx.at_ (by simp)
    refine .inr ⟨x.data.toList, t.map (·.data.toList), b, o, _, c, rfl, hv, by simp, h1, h2, h3, ?_⟩
    have := h4 0 (by simp)
    rw [bs_list]
    simpa using this

set_option maxHeartbeats 1000000 in
theorem Key_any (s : ByteArray) (w : World) (hE : Env w) (hs : s.size ≤ 1048576) :
    Calls Tryd.prog 19 #[.string s] w fun e w' => e = .returned (.string (kyB s)) ∧ Below w.heap.size w w' := by
  have HT := Lib.hid (Tokens_any s w hE hs)
  clear hE
  obtain ⟨L, hL⟩ : ∃ L, L = TM.words [] s.data.toList := ⟨_, rfl⟩
  have HK := Lib.hid (show kyB s = kyL L by rw [hL]; rfl)
  rw [← hL] at HT
  clear hL
  go_enter Tryd.func19, Tryd.ntmps19
  go_wp2_with fail
  refine HT.out.mono ?_
  rintro e w1 ⟨v, rfl, hv, b1⟩
  rcases lists_cases hv with ⟨rfl, a, c, rfl⟩ | ⟨l, t, b, o, n, c, rfl, rfl, h1, h2, h3, h4, h5⟩
  · go_wp2
    go_ret
    exact ⟨ret_str (by rw [HK.out]; rfl), b1⟩
  · unfold maxLen at h3
    have hs1 := b1.size
    go_wp2_with fail
    refine (Soundex_any (bs l) _).mono ?_
    rintro e w2 ⟨rfl, b2⟩
    go_wp2
    go_ret
    exact ⟨ret_str (by rw [HK.out]; rfl), b1.trans (b2.mono hs1)⟩
set_option maxHeartbeats 1000000 in
theorem rKey_any (s : ByteArray) (w : World) (hs : s.size ≤ 1048576) :
    Calls Tryd.prog 20 #[.string s] w fun e w' => e = .returned (.string (kyB s)) ∧ Below w.heap.size w w' := by
  have HT := Lib.hid (rTokens_any s w hs)
  obtain ⟨L, hL⟩ : ∃ L, L = TM.words [] s.data.toList := ⟨_, rfl⟩
  have HK := Lib.hid (show kyB s = kyL L by rw [hL]; rfl)
  rw [← hL] at HT
  clear hL
  go_enter Tryd.func20, Tryd.ntmps20
  go_wp2_with fail
  refine HT.out.mono ?_
  rintro e w1 ⟨v, rfl, hv, b1⟩
  rcases lists_cases hv with ⟨rfl, a, c, rfl⟩ | ⟨l, t, b, o, n, c, rfl, rfl, h1, h2, h3, h4, h5⟩
  · go_wp2
    go_ret
    exact ⟨ret_str (by rw [HK.out]; rfl), b1⟩
  · unfold maxLen at h3
    have hs1 := b1.size
    go_wp2_with fail
    refine (rSoundex_any (bs l) _).mono ?_
    rintro e w2 ⟨rfl, b2⟩
    go_wp2
    go_ret
    exact ⟨ret_str (by rw [HK.out]; rfl), b1.trans (b2.mono hs1)⟩

set_option maxHeartbeats 1000000 in
theorem pSame_any (a b : ByteArray) (w : World) (hE : Env w) (ha : a.size ≤ 1048576) (hb : b.size ≤ 1048576) :
    Calls Tryd.prog 13 #[.string a, .string b] w fun e w' => e = .returned (.bool (smB a b)) ∧ Below w.heap.size w w' := by
  have HA := Lib.hid (Key_any a w hE ha)
  have HB := Lib.hid (fun W (h : Below w.heap.size w W) => Key_any b W (hE.below h hE.size) hb)
  clear hE
  have HS := Lib.hid (show smB a b = (!(kyB a).toList.isEmpty && (kyB a).toList == (kyB b).toList) from rfl)
  generalize kyB a = A at *
  generalize kyB b = B at *
  go_enter Tryd.func13, Tryd.ntmps13
  go_wp2_with fail
  refine HA.out.mono ?_
  rintro e w1 ⟨rfl, b1⟩
  have hs1 := b1.size
  cases h0 : (!A.toList.isEmpty)
  · rw [h0, Bool.false_and] at HS
    go_wp2
    go_ret
    exact ⟨ret_bool (by rw [HS.out]), b1⟩
  · rw [h0, Bool.true_and] at HS
    go_wp2_with fail
    refine (HB.out _ b1).mono ?_
    rintro e w2 ⟨rfl, b2⟩
    go_wp2
    go_ret
    exact ⟨ret_bool (by rw [HS.out]), b1.trans (b2.mono hs1)⟩
set_option maxHeartbeats 1000000 in
theorem rpSame_any (a b : ByteArray) (w : World) (ha : a.size ≤ 1048576) (hb : b.size ≤ 1048576) :
    Calls Tryd.prog 14 #[.string a, .string b] w fun e w' => e = .returned (.bool (smB a b)) ∧ Below w.heap.size w w' := by
  have HA := Lib.hid (fun W => rKey_any a W ha)
  have HB := Lib.hid (fun W => rKey_any b W hb)
  have HS := Lib.hid (show smB a b = (!(kyB a).toList.isEmpty && (kyB a).toList == (kyB b).toList) from rfl)
  generalize kyB a = A at *
  generalize kyB b = B at *
  cases h0 : (!A.toList.isEmpty)
  · rw [h0, Bool.false_and] at HS
    go_enter Tryd.func14, Tryd.ntmps14
    go_wp2_with fail
    refine (HA.out _).mono ?_
    rintro e w1 ⟨rfl, b1⟩
    go_wp2
    go_ret
    exact ⟨ret_bool (by rw [HS.out]), b1⟩
  · rw [h0, Bool.true_and] at HS
    go_enter Tryd.func14, Tryd.ntmps14
    go_wp2_with fail
    refine (HA.out _).mono ?_
    rintro e w1 ⟨rfl, b1⟩
    have hs1 := b1.size
    go_wp2_with fail
    refine (HA.out _).mono ?_
    rintro e w2 ⟨rfl, b2⟩
    have hs2 := b2.size
    go_wp2_with fail
    refine (HB.out _).mono ?_
    rintro e w3 ⟨rfl, b3⟩
    go_wp2
    go_ret
    exact ⟨ret_bool (by rw [HS.out]), (b1.trans (b2.mono hs1)).trans (b3.mono (by omega))⟩
end Go.Proofs.YtblkebjfnboclaaDoor
