/- The walk of Tokens. -/
import Derived.Test.YtblkebjfnboclaaDoorTextSpell
import Derived.Lib.SplitLaws
import Derived.Deep.LoopGhost
namespace Go.Proofs.YtblkebjfnboclaaDoor
open Go.RowKit
set_option maxRecDepth 100000

/-- A slice value that reads as a list of texts; all its cells lie below block B. -/
def IsTexts (B : Nat) (w : World) (v : Value) (xs : List ByteArray) : Prop :=
  ∃ (a : Option Addr) (c : Nat), v = .slice a xs.length c ∧ xs.length ≤ c ∧ c ≤ maxLen ∧ (xs = [] ∨ ∃ b o, a = some ⟨b, o, none⟩ ∧ b < B ∧ ∀ j x, xs[j]? = some x → w.cell? ⟨b, o + j, none⟩ = some (.string x))

theorem IsTexts.keep {B : Nat} {w w' : World} {v : Value} {xs : List ByteArray} (h : IsTexts B w v xs) (hb : Below B w w') : IsTexts B w' v xs := by
  obtain ⟨a, c, hv, h1, h2, h3⟩ := h
  refine ⟨a, c, hv, h1, h2, ?_⟩
  rcases h3 with h3 | ⟨b, o, ha, hlt, hc⟩
  · exact .inl h3
  · exact .inr ⟨b, o, ha, hlt, fun j x hx => (hb.cell (p := ⟨b, o + j, none⟩) hlt).trans (hc j x hx)⟩
theorem IsTexts.more {B B' : Nat} {w : World} {v : Value} {xs : List ByteArray} (h : IsTexts B w v xs) (hb : B ≤ B') : IsTexts B' w v xs := by
  obtain ⟨a, c, hv, h1, h2, h3⟩ := h
  refine ⟨a, c, hv, h1, h2, ?_⟩
  rcases h3 with h3 | ⟨b, o, ha, hlt, hc⟩
  · exact .inl h3
  · exact .inr ⟨b, o, ha, by omega, hc⟩
theorem IsTexts.of_own {base : Nat} {w : World} {v : Value} {xs : List ByteArray} (h : w.ownsRow base 9 1 v xs.length (xs.map Value.string)) : IsTexts w.heap.size w v xs := by
  rcases h.2 with ⟨hv, h0⟩ | ⟨g, cap, cur, hv, hbg, hg, hnc, hcm, hcs, htake⟩
  · have : xs = [] := List.eq_nil_of_length_eq_zero h0
    subst this
    exact ⟨none, 0, hv, by simp, by simp [maxLen], .inl rfl⟩
  · refine ⟨_, cap, hv, hnc, hcm, .inr ⟨g, 0, rfl, (Array.getElem?_eq_some_iff.1 hg).1, fun j x hx => ?_⟩⟩
    have := h.cells (g := g) (by rw [hv]; rfl) j (.string x) (by simp [hx])
    rw [← this]
    unfold Addr.add
    split <;> simp_all

/-- The value of a list of bytes as Go's string. -/
def bs (l : List UInt8) : ByteArray := ⟨l.toArray⟩
theorem bs_list (s : ByteArray) : bs s.data.toList = s := rfl
theorem list_bs (l : List UInt8) : (bs l).data.toList = l := rfl

def sp : ByteArray := ⟨#[32]⟩
def pieces (s : ByteArray) : List ByteArray := Lib.splitB sp 0 (Lib.countB s sp) s
def full (x : ByteArray) : Bool := !x.toList.isEmpty
theorem pieces_length (s : ByteArray) : (pieces s).length = Lib.countB s sp + 1 := Lib.splitB_all sp (by decide) 0 _ s rfl

theorem strInfo : (Tryd.prog.info? 9).map (fun i => (i.zero, i.size, i.bytes)) = some (some (.string ⟨#[]⟩), 1, 16) := by kernel_rfl

theorem Split_pieces (s : ByteArray) (m : Int) (w : World) (hs : s.size ≤ 1048576) (hm : w.cell? ⟨0, 0, none⟩ = some (.int .i64 m)) :
    Calls Tryd.prog 36 #[.string s, .string ⟨#[32]⟩] w fun e w' => e = .returned (.slice (some ⟨w.heap.size, 0, none⟩) (pieces s).length (pieces s).length) ∧ w.alloc (.cells ((pieces s).map Value.string).toArray 9) = w' := by
  refine (Tryd.strings_Split s sp m w (by omega) hm (by decide)).mono ?_
  rintro e w' ⟨he, hw⟩
  exact ⟨by rw [he, pieces_length], hw.symm⟩

theorem filter_take (P : List ByteArray) (k : Nat) (h : k < P.length) : (P.take (k + 1)).filter full = (P.take k).filter full ++ (if full P[k] then [P[k]] else []) := by
  rw [List.take_succ_eq_append_getElem h, List.filter_append, List.filter_cons]
  split <;> simp

set_option maxHeartbeats 1000000 in
theorem Tokens_core (s : ByteArray) (w : World) (hE : Env w) (hs : s.size ≤ 1048576) :
    Calls Tryd.prog 32 #[.string s] w fun e w' => ∃ v, e = .returned v ∧ IsTexts w'.heap.size w' v ((pieces s).filter full) ∧ Below w.heap.size w w' := by
  obtain ⟨i0, hi0, hz0, hz1, hz2⟩ := info_parts strInfo
  obtain ⟨m, hm⟩ := hE.maxLen
  have HE := Lib.hid hE
  clear hE
  have hn1 : (pieces s).length ≤ 1048577 := by
    have := Lib.countB_le sp (by decide) s.size s (Nat.le_refl _)
    rw [pieces_length]; omega
  have HC := Lib.hid (Split_pieces s m w hs hm)
  clear hm
  generalize pieces s = P at *
  have hblk : ∀ W, Below (w.heap.size + 1) (w.alloc (.cells (P.map Value.string).toArray 9)) W → ∀ k, ∀ hk : k < P.length, W.cell? ⟨w.heap.size, k, none⟩ = some (.string P[k]) := by
    intro W hb k hk
    rw [hb.cell (p := ⟨w.heap.size, k, none⟩) (Nat.lt_succ_self _), cell_of_row _ _ _ _ _ _ (heap_alloc_new w _)]
    simp [hk]
  have HB := Lib.hid hblk
  clear hblk
  go_enter Tryd.func32, Tryd.ntmps32
  go_wp2_with fail
  refine HC.out.mono ?_
  rintro e w' ⟨rfl, rfl⟩
  go_wp2
  go_loopw [3, 9] (fun v i wr => ∃ (k : Nat), k ≤ P.length ∧ i = .int .i64 k ∧ wr.ownsRow (w.heap.size + 1) 9 1 v ((P.take k).filter full).length (((P.take k).filter full).map Value.string) ∧
      Below (w.heap.size + 1) (w.alloc (.cells (P.map Value.string).toArray 9)) wr) (fun _ i _ => P.length - (intOf i).toNat)
  case atStart => exact ⟨0, by omega, rfl, World.ownsRow_nil _ _ _ _, Below.refl _ _⟩
  case round =>
    obtain ⟨k, hk, rfl, hown, hbw⟩ := hrel
    by_cases hlt : k < P.length
    · have hc := HB.out wr hbw k hlt
      have hsz := hbw.size
      simp only [World.size_alloc] at hsz
      have hfl : ((P.take k).filter full).length ≤ k := Nat.le_trans (List.length_filter_le _ _) (List.length_take_le _ _)
      have HF := Lib.hid (filter_take P k hlt)
      have HW := Lib.hid hown
      clear hown
      go_wp2_with (at_builtin; refine wpList_append_own _ rfl _ _ 29 rfl (w.heap.size + 1) 9 i0 (.string ⟨#[]⟩) 1 16 Tryd.underlying29 hi0 hz0 hz1 hz2 rfl (by decide) _ _ _ rfl (HW.out.alloc _) ⟨wr.heap.size, 0, none⟩ 1 1 [.string P[k]] rfl rfl ?c1 ?c2 ?c3 ?c4 ?c5 ?_)
      case c1 =>
        intro j u hj
        match j, hj with
        | 0, hj => simp at hj; subst hj; simp [Addr.add]
      case c2 => intro u hu; simp at hu; subst hu; rfl
      case c3 => unfold maxLen; omega
      case c4 => omega
      case c5 => simp; omega
      · intro v' w2 hown' hgrow _
        have hf : full P[k] = true := by assumption
        go_wp2
        refine ⟨⟨k + 1, by omega, by go_num, ?_, ?_⟩, by simp [intOf]; omega⟩
        · rw [HF.out, if_pos hf]
          simpa using hown'
        · exact (hbw.alloc (by omega) _).grown hgrow (by simp; omega) (fun g hg => (HW.out.lt g hg).1)
      · have hf : ¬ full P[k] = true := by have h := ‹(!P[k].toList.isEmpty) = false›; unfold full; rw [h]; simp
        refine ⟨⟨k + 1, by omega, by go_num, ?_, hbw⟩, by simp [intOf]; omega⟩
        rw [HF.out, if_neg hf]
        simpa using HW.out
    · have hge : P.length ≤ k := by omega
      have HW := Lib.hid hown
      clear hown
      go_wp2
      go_ret
      refine ⟨_, rfl, ?_, ?_⟩
      · have h := HW.out
        rw [List.take_of_length_le hge] at h
        exact IsTexts.of_own h
      · exact (((Below.refl _ w).alloc (Nat.le_refl _) _).trans (hbw.mono (by omega)))
end Go.Proofs.YtblkebjfnboclaaDoor
