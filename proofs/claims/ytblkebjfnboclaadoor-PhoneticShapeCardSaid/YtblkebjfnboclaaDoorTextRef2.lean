/- Walks of the reference's Letters, Join, Same, Tokens. -/
import Derived.Test.YtblkebjfnboclaaDoorTextRefFold
import Derived.Deep.QuietTactic
import Derived.BigQuiet
namespace Go.Proofs.YtblkebjfnboclaaDoor
open Go.RowKit
set_option maxRecDepth 100000

theorem extract_one (s : ByteArray) (k : Nat) (h : k < s.size) : s.extract k (k + 1) = ⟨#[s[k]]⟩ := by
  have e := Lib.extract_data s k (k + 1)
  rw [drop_at s k h, Nat.add_sub_cancel_left] at e
  cases hx : s.extract k (k + 1)
  rw [hx] at e
  congr 1
  exact Array.toList_inj.1 (by simpa using e)

theorem below_drewN {B : Nat} {a w : World} (h : Below B a w) (n : Nat) : Below B a (w.drewN n) := ⟨h.os, h.tape, h.output, h.size, h.block⟩

set_option maxHeartbeats 1000000 in
theorem rLetters_any (s : ByteArray) (w : World) (hsz : s.size ≤ 1048576) :
    Calls Tryd.prog 22 #[.string s] w fun e w' => e = .returned (.string ⟨(s.data.toList.filter TM.lower).toArray⟩) ∧ w = w' := by
  go_enter Tryd.func22, Tryd.ntmps22
  go_wp2
  go_loop [3, 4] (fun o i => ∃ (k : Nat) (so : ByteArray), k ≤ s.size ∧ i = .int .i64 k ∧ o = .string so ∧ so.size ≤ k ∧ so.data.toList ++ (s.data.toList.drop k).filter TM.lower = s.data.toList.filter TM.lower) (fun _ i => s.size - (intOf i).toNat)
  case atStart => exact ⟨0, ⟨#[]⟩, by omega, rfl, rfl, by simp [ByteArray.size], rfl⟩
  case round =>
    obtain ⟨k, so, hk, rfl, rfl, hl, hacc⟩ := hrel
    have HA := Lib.hid hacc
    clear hacc
    by_cases hlt : k < s.size
    · have HS := Lib.hid (show (s.data.toList.drop k).filter TM.lower = (if TM.lower s[k] then [s[k]] else []) ++ (s.data.toList.drop (k + 1)).filter TM.lower by
        rw [drop_at s k hlt, List.filter_cons]; split <;> rfl)
      have hx := extract_one s k hlt
      go_wp2
      · refine ⟨⟨k + 1, _, by omega, by go_num, rfl, ?_, ?_⟩, by simp [intOf]; omega⟩
        · rw [size_add]; show _ + 1 ≤ _; omega
        · rw [← HA.out, HS.out, if_pos (by simp [TM.lower]; omega), data_add]; simp
      all_goals
        refine ⟨⟨k + 1, _, by omega, by go_num, rfl, by omega, ?_⟩, by simp [intOf]; omega⟩
        rw [← HA.out, HS.out, if_neg (by simp [TM.lower]; omega)]; simp
    · have hge : s.size ≤ k := by omega
      go_wp2
      go_ret
      refine ⟨ret_str ?_, rfl⟩
      have := HA.out
      rw [drop_end s k hge, List.filter_nil, List.append_nil] at this
      rw [← this]

theorem join_len (ls : List (List UInt8)) (M : Nat) (h : ∀ l ∈ ls, l.length ≤ M) : (TM.join ls).length ≤ ls.length * (M + 1) := by
  induction ls with
  | nil => simp [TM.join]
  | cons a t ih =>
    have ih := ih (fun l hl => h l (by simp [hl]))
    have ha := h a (by simp)
    cases t with
    | nil => simp [TM.join]; omega
    | cons b u =>
      simp only [TM.join, List.length_append, List.length_cons] at ih ⊢
      have : (u.length + 1 + 1) * (M + 1) = (u.length + 1) * (M + 1) + (M + 1) := by rw [Nat.succ_mul]
      omega

theorem join_take (ls : List (List UInt8)) (k : Nat) (h : k < ls.length) : TM.join (ls.take (k + 1)) = if k = 0 then ls[k] else TM.join (ls.take k) ++ 32 :: ls[k] := by
  rw [List.take_succ_eq_append_getElem h]
  by_cases hk : k = 0
  · subst hk; simp [TM.join]
  · rw [if_neg hk, TM.join_snoc]
    intro e
    have := congrArg List.length e
    rw [List.length_take_of_le (by omega)] at this
    exact hk this

theorem IsTexts.at_ {B : Nat} {w : World} {v : Value} {xs : List ByteArray} (h : IsTexts B w v xs) (hne : xs ≠ []) : ∃ b o c, v = .slice (some ⟨b, o, none⟩) xs.length c ∧ xs.length ≤ c ∧ c ≤ maxLen ∧ b < B ∧ ∀ k, ∀ hk : k < xs.length, w.cell? ⟨b, o + k, none⟩ = some (.string xs[k]) := by
  obtain ⟨a, c, hv, h1, h2, h3⟩ := h
  rcases h3 with h3 | ⟨b, o, ha, hlt, hc⟩
  · exact absurd h3 hne
  · subst ha
    exact ⟨b, o, c, hv, h1, h2, hlt, fun k hk => hc k _ (List.getElem?_eq_getElem hk)⟩
theorem IsTexts.nil_ {B : Nat} {w : World} {v : Value} (h : IsTexts B w v []) : ∃ a c, v = .slice a 0 c := by
  obtain ⟨a, c, hv, _⟩ := h
  exact ⟨a, c, hv⟩

/-- Whether two lists of texts are the same. -/
def sameB (xs ys : List ByteArray) : Bool := decide (xs.map (·.data.toList) = ys.map (·.data.toList))

end Go.Proofs.YtblkebjfnboclaaDoor
