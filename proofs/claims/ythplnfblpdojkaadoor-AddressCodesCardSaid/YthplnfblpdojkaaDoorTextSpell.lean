/- The walk of spell: a builder is written byte by byte. -/
import Derived.Test.YthplnfblpdojkaaDoorTextPure
import Derived.Test.YthplnfblpdojkaaDoorShelf
import Derived.ShutString
namespace Go.Proofs.YthplnfblpdojkaaDoor
open Go.RowKit
set_option maxRecDepth 100000

/-- What every world of this program holds of its package-level variables: the table of replacements; a number in the library's own variable. -/
structure Env (w : World) : Prop where
  repl : ∀ d : UInt8, TM.second d = true → w.cell? ⟨0, d.toNat - 128, none⟩ = some (.string ⟨(TM.repl d).toArray⟩)
  maxLen : ∃ m : Int, w.cell? ⟨1, 0, none⟩ = some (.int .i64 m)
  size : 4 ≤ w.heap.size

theorem Env.below {w w' : World} (h : Env w) {B : Nat} (hb : Below B w w') (hB : 4 ≤ B) : Env w' where
  repl d hd := (hb.cell (p := ⟨_, _, none⟩) (Nat.lt_of_lt_of_le (show 0 < 4 by decide) hB)).trans (h.repl d hd)
  maxLen := by
    obtain ⟨m, hm⟩ := h.maxLen
    exact ⟨m, (hb.cell (p := ⟨_, _, none⟩) (Nat.lt_of_lt_of_le (show 1 < 4 by decide) hB)).trans hm⟩
  size := Nat.le_trans h.size hb.size
theorem Env.alloc {w : World} (h : Env w) (o : Obj) : Env (w.alloc o) := h.below (B := w.heap.size) ((Below.refl _ w).alloc (Nat.le_refl _) o) h.size

theorem cells_upper (c : UInt8) (h1 : 65 ≤ (c.toNat : Int)) (h2 : (c.toNat : Int) ≤ 90) : [Value.int .u8 ((c.toNat : Int) - 65 + 97)] = Lib.byteCells (TM.one c) := by
  rw [TM.one_upper c h1 h2]
  simp only [Lib.byteCells, List.map_cons, List.map_nil, TM.add32 c h1 h2]
  have : ((c.toNat : Int) - 65 + 97) = ((c.toNat + 32 : Nat) : Int) := by omega
  rw [this]
theorem cells_same (c : UInt8) (h : TM.lower c = true ∨ (48 ≤ (c.toNat : Int) ∧ (c.toNat : Int) ≤ 57)) : [Value.int .u8 (c.toNat : Int)] = Lib.byteCells (TM.one c) := by
  rw [TM.one_same c h]; rfl
theorem cells_sep (c : UInt8) (h0 : (c.toNat : Int) < 65 ∨ 90 < (c.toNat : Int)) (h1 : TM.lower c = false) (h2 : (c.toNat : Int) < 48 ∨ 57 < (c.toNat : Int)) (h : ¬ (c.toNat : Int) = 39) : [Value.int .u8 32] = Lib.byteCells (TM.one c) := by
  rw [TM.one_sep c h0 h1 h2 h]; rfl

set_option maxHeartbeats 1000000 in
theorem spell_any (s : ByteArray) (w : World) (hE : Env w) (hv : validB s = true) :
    Calls Tryd.prog 42 #[.string s] w fun e w' => e = .returned (.string ⟨(TM.spell s.data.toList).toArray⟩) ∧ Below w.heap.size w w' := by
  have hsz : s.size ≤ 64 := by
    unfold validB TM.valid at hv
    simp at hv
    omega
  have hok : TM.ok s.data.toList = true := by
    unfold validB TM.valid at hv
    simp at hv
    exact hv.2
  clear hv
  have h4 := hE.size
  have HE := Lib.hid hE
  clear hE
  have HO := Lib.hid hok
  clear hok
  go_enter Tryd.func42, Tryd.ntmps42
  go_wp2
  go_loopw [4] (fun i wr => ∃ (k : Nat) (acc : List UInt8), k ≤ s.size ∧ i = .int .i64 k ∧ acc.length ≤ k ∧ TM.ok (s.data.toList.drop k) = true ∧ acc ++ TM.spell (s.data.toList.drop k) = TM.spell s.data.toList ∧
      Lib.IsBuilder 76 5 w.heap.size w.heap.size (Lib.byteCells acc) wr ∧ Below w.heap.size w wr) (fun i _ => s.size - (intOf i).toNat)
  case atStart => exact ⟨0, [], by omega, rfl, by simp, HO.out, rfl, Lib.fresh_isBuilder 76 5 w, (Below.refl _ w).alloc (Nat.le_refl _) _⟩
  case round =>
    obtain ⟨k, acc, hk, rfl, hl, hok, hacc, hI, hbw⟩ := hrel
    have hE2 := HE.out.below hbw (by omega)
    have HA := Lib.hid hacc
    clear hacc
    have HO2 := Lib.hid hok
    clear hok
    by_cases hlt : k < s.size
    · by_cases hp : s[k].toNat = 195
      · have hok2 : k + 1 < s.size ∧ ∀ h : k + 1 < s.size, TM.second s[k + 1] = true ∧ TM.ok (s.data.toList.drop (k + 2)) = true ∧ TM.spell (s.data.toList.drop k) = TM.repl s[k + 1] ++ TM.spell (s.data.toList.drop (k + 2)) := by
          have h := HO2.out
          rw [drop_at s k hlt] at h
          obtain ⟨d, u, e, h1, h2⟩ := TM.ok_195 _ _ hp h
          have hk1 : k + 1 < s.size := by
            rcases Nat.lt_or_ge (k + 1) s.size with h' | h'
            · exact h'
            · rw [drop_end s (k + 1) h'] at e; cases e
          refine ⟨hk1, fun hk1 => ?_⟩
          rw [drop_at s (k + 1) hk1] at e
          obtain ⟨e1, e2⟩ := List.cons.inj e
          refine ⟨by rw [e1]; exact h1, by rw [e2]; exact h2, ?_⟩
          rw [drop_at s k hlt, drop_at s (k + 1) hk1, TM.spell_pair _ _ _ hp]
        obtain ⟨hk1, hx⟩ := hok2
        obtain ⟨hsec, hok3, hsp⟩ := hx hk1
        clear hx
        have hc := hE2.repl _ hsec
        have g1 : 128 ≤ (s[k + 1].toNat : Int) ∧ (s[k + 1].toNat : Int) ≤ 191 := by
          unfold TM.second at hsec
          simp at hsec
          omega
        obtain ⟨g1, g2⟩ := g1
        have HP := Lib.hid hp
        clear hp
        have HS := Lib.hid hsp
        clear hsp
        have HSec := Lib.hid hsec
        clear hsec
        have HO3 := Lib.hid hok3
        clear hok3
        have hpi : ((s[k].toNat : Int) == 195) = true := by simp [HP.out]
        have hrl := TM.repl_le s[k + 1]
        go_wp2_with (go_at_call 54; refine (Tryd.Builder_WriteString w.heap.size w.heap.size _ _ _ hI (by rw [Lib.byteCells_length, size_of_list]; omega) hbw.size).mono ?_)
        rintro e W1 ⟨rfl, h1, b1⟩
        go_wp2
        refine ⟨⟨k + 2, acc ++ TM.repl s[k + 1], by omega, by go_num, by rw [List.length_append]; omega, HO3.out, by rw [List.append_assoc, ← HS.out, HA.out], ?_, hbw.trans b1⟩, by simp [intOf]; omega⟩
        rw [Lib.byteCells_append]
        exact Or.inr h1
      · have hpi : ((s[k].toNat : Int) == 195) = false := by
          simp only [beq_eq_false_iff_ne]
          omega
        have hok3 := HO2.out
        rw [drop_at s k hlt] at hok3
        have HO3 := Lib.hid (TM.ok_rest _ _ hp hok3)
        clear hok3
        have HS := Lib.hid (show TM.spell (s.data.toList.drop k) = TM.one s[k] ++ TM.spell (s.data.toList.drop (k + 1)) by rw [drop_at s k hlt, TM.spell_one _ _ hp])
        have HP := Lib.hid hp
        clear hp
        have step : ∀ (W : World), Lib.IsBuilder 76 5 w.heap.size w.heap.size (Lib.byteCells acc ++ Lib.byteCells (TM.one s[k])) W → Below w.heap.size wr W →
            ∃ (k' : Nat) (acc : List UInt8), k' ≤ s.size ∧ Value.int IntKind.i64 ((k : Int) + 1) = .int .i64 k' ∧ acc.length ≤ k' ∧ TM.ok (s.data.toList.drop k') = true ∧ acc ++ TM.spell (s.data.toList.drop k') = TM.spell s.data.toList ∧
              Lib.IsBuilder 76 5 w.heap.size w.heap.size (Lib.byteCells acc) W ∧ Below w.heap.size w W := by
          intro W hI' hb'
          refine ⟨k + 1, acc ++ TM.one s[k], by omega, by go_num, ?_, HO3.out, by rw [List.append_assoc, ← HS.out, HA.out], ?_, hbw.trans hb'⟩
          · have := TM.one_le s[k]
            rw [List.length_append]; omega
          · rw [Lib.byteCells_append]; exact hI'
        have STEP := Lib.hid step
        clear step
        go_wp2_with (first
          | (go_at_call 56; refine (isLetter_any _ _).mono ?_; rintro e w' ⟨rfl, rfl⟩)
          | (go_at_call 55; refine (Tryd.Builder_WriteByte w.heap.size w.heap.size _ _ _ hI (by rw [Lib.byteCells_length]; omega) hbw.size).mono ?_; rintro e W1 ⟨rfl, h1, b1⟩))
        all_goals refine ⟨STEP.out _ ?_ (by first | assumption | exact Below.refl _ _), by simp [intOf]; omega⟩
        all_goals first
          | (rw [← cells_upper s[k] (by assumption) (by assumption)]; exact Or.inr ‹_›)
          | (rw [← cells_same s[k] (by first | exact .inl (by assumption) | exact .inr ⟨by assumption, by assumption⟩)]; exact Or.inr ‹_›)
          | (rw [← cells_sep s[k] (by omega) (by simpa using ‹¬ TM.lower s[k] = true›) (by omega) (by simpa using ‹((s[k].toNat : Int) != 39) = true›)]; exact Or.inr ‹_›)
          | (rw [TM.one_quote s[k] (by first | assumption | omega | (have hq := ‹((s[k].toNat : Int) != 39) = false›; simpa using hq))]; simpa [Lib.byteCells] using hI)
    · have hge : s.size ≤ k := by omega
      go_wp2_with (go_at_call 57; refine (Tryd.Builder_String_any w.heap.size w.heap.size acc _ hI hbw.size).mono ?_)
      rintro e W1 ⟨rfl, b1⟩
      go_wp2
      go_ret
      refine ⟨ret_str ?_, hbw.trans b1⟩
      have := HA.out
      rw [drop_end s k hge, TM.spell_nil, List.append_nil] at this
      rw [this]
set_option maxHeartbeats 1000000 in
theorem Letters_any (s : ByteArray) (w : World) (hsz : s.size ≤ 1048576) :
    Calls Tryd.prog 64 #[.string s] w fun e w' => e = .returned (.string ⟨(s.data.toList.filter TM.lower).toArray⟩) ∧ Below w.heap.size w w' := by
  go_enter Tryd.func64, Tryd.ntmps64
  go_wp2
  go_loopw [4] (fun i wr => ∃ (k : Nat) (acc : List UInt8), k ≤ s.size ∧ i = .int .i64 k ∧ acc.length ≤ k ∧ acc ++ (s.data.toList.drop k).filter TM.lower = s.data.toList.filter TM.lower ∧
      Lib.IsBuilder 76 5 w.heap.size w.heap.size (Lib.byteCells acc) wr ∧ Below w.heap.size w wr) (fun i _ => s.size - (intOf i).toNat)
  case atStart => exact ⟨0, [], by omega, rfl, by simp, rfl, Lib.fresh_isBuilder 76 5 w, (Below.refl _ w).alloc (Nat.le_refl _) _⟩
  case round =>
    obtain ⟨k, acc, hk, rfl, hl, hacc, hI, hbw⟩ := hrel
    have HA := Lib.hid hacc
    clear hacc
    by_cases hlt : k < s.size
    · have HS := Lib.hid (show (s.data.toList.drop k).filter TM.lower = (if TM.lower s[k] then [s[k]] else []) ++ (s.data.toList.drop (k + 1)).filter TM.lower by
        rw [drop_at s k hlt, List.filter_cons]; split <;> rfl)
      go_wp2_with (first
        | (go_at_call 56; refine (isLetter_any _ _).mono ?_; rintro e w' ⟨rfl, rfl⟩)
        | (go_at_call 55; refine (Tryd.Builder_WriteByte w.heap.size w.heap.size _ _ _ hI (by rw [Lib.byteCells_length]; omega) hbw.size).mono ?_; rintro e W1 ⟨rfl, h1, b1⟩))
      · refine ⟨⟨k + 1, acc ++ [s[k]], by omega, by go_num, by simp; omega, ?_, ?_, hbw.trans b1⟩, by simp [intOf]; omega⟩
        · rw [← HA.out, HS.out, if_pos (by assumption)]; simp
        · rw [Lib.byteCells_append]; exact Or.inr h1
      · refine ⟨⟨k + 1, acc, by omega, by go_num, by omega, ?_, hI, hbw⟩, by simp [intOf]; omega⟩
        rw [← HA.out, HS.out, if_neg (by have h := ‹TM.lower s[k] = false›; simp [h])]; simp
    · have hge : s.size ≤ k := by omega
      go_wp2_with (go_at_call 57; refine (Tryd.Builder_String_any w.heap.size w.heap.size acc _ hI hbw.size).mono ?_)
      rintro e W1 ⟨rfl, b1⟩
      go_wp2
      go_ret
      refine ⟨ret_str ?_, hbw.trans b1⟩
      have := HA.out
      rw [drop_end s k hge, List.filter_nil, List.append_nil] at this
      rw [this]
end Go.Proofs.YthplnfblpdojkaaDoor
