/- Walks of the reference's Letters, Join, Same, Tokens. -/
import Derived.Test.YtjdjjehdognpiaaDoorTextRefFold
import Derived.Deep.QuietTactic
import Derived.BigQuiet
namespace Go.Proofs.YtjdjjehdognpiaaDoor
open Go.RowKit
set_option maxRecDepth 100000

theorem extract_one (s : ByteArray) (k : Nat) (h : k < s.size) : s.extract k (k + 1) = ⟨#[s[k]]⟩ := by
  have e := Lib.extract_data s k (k + 1)
  rw [drop_at s k h, Nat.add_sub_cancel_left] at e
  cases hx : s.extract k (k + 1)
  rw [hx] at e
  congr 1
  exact Array.toList_inj.1 (by simpa using e)

theorem below_drewN {B : Nat} {a w : World} (h : Below B a w) (n : Nat) : Below B a (w.drewN n) := ⟨h.os, h.tape, h.output, h.size, h.block⟩

theorem join_len (ls : List (List UInt8)) (M : Nat) (h : ∀ l ∈ ls, l.length ≤ M) : (TM.join ls).length ≤ ls.length * (M + 1) := by
  induction ls with
  | nil => simp [TM.join]
  | cons a t ih =>
    have ih := ih (fun l hl => h l (by simp [hl]))
    have ha := h a (by simp)
    cases t with
    | nil => simp [TM.join]; omega
    | cons b u =>
      simp only [TM.join, List.length_append, List.length_cons] at ih ⊢
      have : (u.length + 1 + 1) * (M + 1) = (u.length + 1) * (M + 1) + (M + 1) := by rw [Nat.succ_mul]
      omega

theorem join_take (ls : List (List UInt8)) (k : Nat) (h : k < ls.length) : TM.join (ls.take (k + 1)) = if k = 0 then ls[k] else TM.join (ls.take k) ++ 32 :: ls[k] := by
  rw [List.take_succ_eq_append_getElem h]
  by_cases hk : k = 0
  · subst hk; simp [TM.join]
  · rw [if_neg hk, TM.join_snoc]
    intro e
    have := congrArg List.length e
    rw [List.length_take_of_le (by omega)] at this
    exact hk this

theorem IsTexts.at_ {B : Nat} {w : World} {v : Value} {xs : List ByteArray} (h : IsTexts B w v xs) (hne : xs ≠ []) : ∃ b o c, v = .slice (some ⟨b, o, none⟩) xs.length c ∧ xs.length ≤ c ∧ c ≤ maxLen ∧ b < B ∧ ∀ k, ∀ hk : k < xs.length, w.cell? ⟨b, o + k, none⟩ = some (.string xs[k]) := by
  obtain ⟨a, c, hv, h1, h2, h3⟩ := h
  rcases h3 with h3 | ⟨b, o, ha, hlt, hc⟩
  · exact absurd h3 hne
  · subst ha
    exact ⟨b, o, c, hv, h1, h2, hlt, fun k hk => hc k _ (List.getElem?_eq_getElem hk)⟩
theorem IsTexts.nil_ {B : Nat} {w : World} {v : Value} (h : IsTexts B w v []) : ∃ a c, v = .slice a 0 c := by
  obtain ⟨a, c, hv, _⟩ := h
  exact ⟨a, c, hv⟩

/-- Whether two lists of texts are the same. -/
def sameB (xs ys : List ByteArray) : Bool := decide (xs.map (·.data.toList) = ys.map (·.data.toList))

set_option maxHeartbeats 1000000 in
theorem rSame_any (B : Nat) (v u : Value) (xs ys : List ByteArray) (w : World) (h : IsTexts B w v xs) (h' : IsTexts B w u ys) :
    Calls Tryd.prog 14 #[v, u] w fun e w' => e = .returned (.bool (sameB xs ys)) ∧ Below w.heap.size w w' := by
  by_cases hlen : xs.length = ys.length
  · by_cases hne : xs = []
    · subst hne
      have hy : ys = [] := List.eq_nil_of_length_eq_zero (by simpa using hlen.symm)
      subst hy
      obtain ⟨a, c, rfl⟩ := h.nil_
      obtain ⟨a', c', rfl⟩ := h'.nil_
      clear hlen h h'
      go_enter Tryd.func14, Tryd.ntmps14
      go_wp2
      go_loop [5] (fun i => i = .int .i64 0) (fun _ => 0)
      case atStart => rfl
      case round =>
        obtain rfl := hrel
        go_wp2
        go_ret
        exact ⟨rfl, Below.refl _ _⟩
    · have hne' : ys ≠ [] := by
        intro e; subst e
        exact hne (List.eq_nil_of_length_eq_zero (by simpa using hlen))
      obtain ⟨b, o, c, rfl, h1, h2, hlt, hc⟩ := h.at_ hne
      obtain ⟨b', o', c', rfl, h1', h2', hlt', hc'⟩ := h'.at_ hne'
      have HC := Lib.hid hc
      have HC' := Lib.hid hc'
      clear hc hc' h h'
      unfold maxLen at h2 h2'
      have HL := Lib.hid hlen
      rw [← hlen]
      rw [← hlen] at h1'
      clear hlen
      go_enter Tryd.func14, Tryd.ntmps14
      go_wp2
      go_loopw [5] (fun i wr => ∃ (k : Nat), k ≤ xs.length ∧ i = .int .i64 k ∧ (xs.map (·.data.toList)).take k = (ys.map (·.data.toList)).take k ∧ (∀ p : Addr, wr.cell? p = w.cell? p) ∧ Below w.heap.size w wr) (fun i _ => xs.length - (intOf i).toNat)
      case atStart => exact ⟨0, by omega, rfl, rfl, fun _ => rfl, Below.refl _ _⟩
      case round =>
        obtain ⟨k, hk, rfl, hacc, hcell, hbw⟩ := hrel
        have HA := Lib.hid hacc
        clear hacc
        by_cases hlt : k < xs.length
        · have hky : k < ys.length := by rw [← HL.out]; exact hlt
          have hc := (hcell _).trans (HC.out k hlt)
          have hc' := (hcell _).trans (HC'.out k hky)
          have HCell := Lib.hid hcell
          clear hcell
          go_wp2
          go_quiet (fail)
          go_wp2
          · go_ret
            refine ⟨ret_bool ?_, below_drewN hbw _⟩
            have h := ‹(!xs[k].toList == ys[k].toList) = true›
            unfold sameB
            rw [eq_comm, decide_eq_false_iff_not]
            intro e
            have hk1 : (xs.map (·.data.toList))[k]? = (ys.map (·.data.toList))[k]? := by rw [e]
            rw [List.getElem?_eq_getElem (by simpa using hlt), List.getElem?_eq_getElem (by simpa using hky)] at hk1
            simp only [List.getElem_map, Option.some.injEq] at hk1
            rw [Lib.toList_data, Lib.toList_data, hk1] at h
            simp at h
          · refine ⟨⟨k + 1, by omega, by go_num, ?_, fun p => (show (wr.drewN nq).cell? p = wr.cell? p from rfl).trans (HCell.out p), below_drewN hbw _⟩, by simp [intOf]; omega⟩
            have h := ‹(!xs[k].toList == ys[k].toList) = false›
            rw [Lib.toList_data, Lib.toList_data] at h
            rw [List.take_succ_eq_append_getElem (by simpa using hlt), List.take_succ_eq_append_getElem (by simpa using hky), HA.out]
            simp only [List.getElem_map]
            have h2 : xs[k].data.toList = ys[k].data.toList := by simpa using h
            rw [h2]
        · go_wp2
          go_ret
          refine ⟨ret_bool ?_, hbw⟩
          have := HA.out
          have hl := HL.out
          rw [List.take_of_length_le (by simp; omega), List.take_of_length_le (by simp; omega)] at this
          unfold sameB
          exact (decide_eq_true this).symm
  · have hs : sameB xs ys = false := by
      unfold sameB
      rw [decide_eq_false_iff_not]
      intro e
      have := congrArg List.length e
      simp at this
      exact hlen this
    have HS := Lib.hid hs
    have hn : ((xs.length : Int) != (ys.length : Int)) = true := by simp; omega
    obtain ⟨a, c, rfl, _⟩ := h
    obtain ⟨a', c', rfl, _⟩ := h'
    clear hs hlen
    go_enter Tryd.func14, Tryd.ntmps14
    go_wp2
    go_ret
    exact ⟨ret_bool HS.out.symm, Below.refl _ _⟩
end Go.Proofs.YtjdjjehdognpiaaDoor
