/- The walk of the reference's Tokens. -/
import Derived.Test.YtblkebjfnboclaaDoorTextRef2
namespace Go.Proofs.YtblkebjfnboclaaDoor
open Go.RowKit
set_option maxRecDepth 100000

theorem words_nil (p : List UInt8) : TM.words p [] = if p = [] then [] else [p] := rfl
theorem words_sp (p : List UInt8) (c : UInt8) (t : List UInt8) (h : (c.toNat : Int) = 32) : TM.words p (c :: t) = (if p = [] then [] else [p]) ++ TM.words [] t := by
  have h' : c.toNat = 32 := by omega
  by_cases hp : p = [] <;> simp [TM.words, h', hp]
theorem words_ch (p : List UInt8) (c : UInt8) (t : List UInt8) (h : ¬ (c.toNat : Int) = 32) : TM.words p (c :: t) = TM.words (p ++ [c]) t := by
  have h' : ¬ c.toNat = 32 := by omega
  simp [TM.words, h']

/-- What is still to come at place k. -/
def rest (s p : ByteArray) (k : Nat) : List (List UInt8) := if k ≤ s.size then TM.words p.data.toList (s.data.toList.drop k) else []

set_option maxRecDepth 100000 in
set_option maxHeartbeats 1000000 in
theorem rTokens_any (s : ByteArray) (w : World) (hs : s.size ≤ 1048576) :
    Calls Tryd.prog 33 #[.string s] w fun e w' => ∃ v, e = .returned v ∧ IsLists w'.heap.size w' v (TM.words [] s.data.toList) ∧ Below w.heap.size w w' := by
  obtain ⟨i0, hi0, hz0, hz1, hz2⟩ := info_parts strInfo
  go_enter Tryd.func33, Tryd.ntmps33
  go_wp2
  go_loopw [3, 4, 5] (fun v p i wr => ∃ (k : Nat) (pt : ByteArray) (xs : List ByteArray), k ≤ s.size + 1 ∧ i = .int .i64 k ∧ p = .string pt ∧ pt.size ≤ k ∧ xs.length ≤ k ∧ wr.ownsRow w.heap.size 9 1 v xs.length (xs.map Value.string) ∧
      xs.map (·.data.toList) ++ rest s pt k = TM.words [] s.data.toList ∧ Below w.heap.size w wr) (fun _ _ i _ => s.size + 1 - (intOf i).toNat)
  case atStart => exact ⟨0, ⟨#[]⟩, [], by omega, rfl, rfl, by simp [ByteArray.size], by simp, World.ownsRow_nil _ _ _ _, by simp [rest], Below.refl _ _⟩
  case round =>
    obtain ⟨k, pt, xs, hk, rfl, rfl, hp, hxl, hown, hacc, hbw⟩ := hrel
    have HA := Lib.hid hacc
    clear hacc
    have hsz := hbw.size
    have HW := Lib.hid hown
    clear hown
    by_cases hle : k ≤ s.size
    · have hx : ∀ hlt : k < s.size, s.extract k (k + 1) = ⟨#[s[k]]⟩ := fun hlt => extract_one s k hlt
      by_cases hch : ∃ hlt : k < s.size, ¬ (s[k].toNat : Int) = 32
      · obtain ⟨hlt, hn⟩ := hch
        have hx := hx hlt
        have hnb : ((s[k].toNat : Int) != 32) = true := by simp; omega
        have HN := Lib.hid hn
        clear hn
        go_wp2
        refine ⟨⟨k + 1, _, xs, by omega, by go_num, rfl, ?_, by omega, HW.out, ?_, hbw⟩, by simp [intOf]; omega⟩
        · rw [size_add]; show _ + 1 ≤ _; omega
        · rw [← HA.out]
          unfold rest
          rw [if_pos (by omega), if_pos hle, drop_at s k hlt, words_ch _ _ _ HN.out, data_add]
      · have hend : (¬ k < s.size) ∨ ∃ hlt : k < s.size, (s[k].toNat : Int) = 32 := by
          by_cases hlt : k < s.size
          · right
            refine ⟨hlt, ?_⟩
            rcases Int.decEq (s[k].toNat : Int) 32 with h | h
            · exact absurd ⟨hlt, h⟩ hch
            · exact h
          · exact .inl hlt
        clear hch hx
        have HR := Lib.hid (show rest s pt k = (if pt.data.toList = [] then [] else [pt.data.toList]) ++ rest s ⟨#[]⟩ (k + 1) by
          unfold rest
          rw [if_pos hle]
          rcases hend with h | ⟨h, h32⟩
          · rw [drop_end s k (by omega), if_neg (show ¬ k + 1 ≤ s.size by omega), words_nil]; simp
          · rw [drop_at s k h, if_pos (show k + 1 ≤ s.size by omega), words_sp _ _ _ h32])
        rcases hend with h | ⟨h, h32⟩
        all_goals
          try have hnb : ((s[k].toNat : Int) != 32) = false := by simp; omega
          try clear h32
          go_wp2_with (at_builtin; refine wpList_append_own _ rfl _ _ 29 rfl w.heap.size 9 i0 (.string ⟨#[]⟩) 1 16 Tryd.underlying29 hi0 hz0 hz1 hz2 rfl (by decide) _ _ _ rfl (HW.out.alloc _) ⟨wr.heap.size, 0, none⟩ 1 1 [.string pt] rfl rfl ?c1 ?c2 ?c3 ?c4 ?c5 ?_)
          case c1 =>
            intro j u hj
            match j, hj with
            | 0, hj => simp at hj; subst hj; simp [Addr.add]
          case c2 => intro u hu; simp at hu; subst hu; rfl
          case c3 => unfold maxLen; omega
          case c4 => omega
          case c5 => simp; omega
          · intro v' w2 hown' hgrow _
            have hf := ‹(!pt.toList.isEmpty) = true›
            go_wp2
            refine ⟨⟨k + 1, _, xs ++ [pt], by omega, by go_num, rfl, by simp [ByteArray.size], by simp; omega, by simpa using hown', ?_, ?_⟩, by simp [intOf]; omega⟩
            · rw [← HA.out, HR.out, if_neg (full_list pt hf)]; simp
            · exact (hbw.alloc (by omega) _).grown hgrow (by simp; omega) (fun g hg => (HW.out.lt g hg).1)
          · have hf := ‹(!pt.toList.isEmpty) = false›
            refine ⟨⟨k + 1, _, xs, by omega, by go_num, rfl, by simp [ByteArray.size], by omega, HW.out, ?_, hbw⟩, by simp [intOf]; omega⟩
            rw [← HA.out, HR.out, if_pos (empty_list pt hf)]; simp
    · go_wp2
      go_ret
      refine ⟨_, rfl, ⟨xs, IsTexts.of_own HW.out, ?_⟩, hbw⟩
      have h := HA.out
      unfold rest at h
      rw [if_neg hle] at h
      simpa using h
end Go.Proofs.YtblkebjfnboclaaDoor
