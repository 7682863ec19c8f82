/- Layer 9 in plain words: hexadecimal digits, read and written, and their order. No Go in sight. -/
import Derived.Test.YtfcnodiepdnegaaBitMath
namespace Go.Proofs.Ytfcnodiepdnegaa.BM
set_option linter.unusedVariables false
set_option maxRecDepth 100000

theorem undig_dig : ∀ k, k < 16 → undig (dig k) = some k := by decide
theorem dig_lt : ∀ a, a < 16 → ∀ b, b < 16 → (dig a < dig b ↔ a < b) := by decide
theorem dig_eq : ∀ a, a < 16 → ∀ b, b < 16 → (dig a = dig b ↔ a = b) := by decide
/-- The last n hexadecimal digits of a number. -/
def digs : Nat → Nat → List UInt8
  | 0, _ => []
  | n + 1, x => digs n (x / 16) ++ [dig (x % 16)]
theorem digs_len (n x : Nat) : (digs n x).length = n := by
  induction n generalizing x with
  | zero => rfl
  | succ n ih => simp [digs, ih]
theorem hexW_digs (x : UInt64) : hexW x = digs 16 x.toNat := by
  have h := x.toNat_lt
  simp only [hexW, nib, digs, List.range, List.range.loop, List.map_cons, List.map_nil, List.nil_append, List.cons_append, Nat.div_div_eq_div_mul, Nat.reduceMul, Nat.reduceSub, Nat.reducePow, Nat.div_one]
theorem hexW_len (x : UInt64) : (hexW x).length = 16 := by unfold hexW; simp
theorem readN_app (a : Nat) (s t : List UInt8) : readN a (s ++ t) = (readN a s).bind fun b => readN b t := by
  induction s generalizing a with
  | nil => rfl
  | cons c s ih =>
    simp only [List.cons_append, readN]
    cases undig c with
    | none => rfl
    | some d => exact ih _
theorem readN_digs (n x a : Nat) (h : x < 16 ^ n) : readN a (digs n x) = some (a * 16 ^ n + x) := by
  induction n generalizing x with
  | zero =>
    simp at h
    simp [digs, readN, h]
  | succ n ih =>
    have hx : x / 16 < 16 ^ n := by
      rw [Nat.pow_succ] at h
      omega
    simp only [digs]
    rw [readN_app, ih _ hx]
    simp only [Option.bind_some, readN, undig_dig _ (Nat.mod_lt x (by decide))]
    congr 1
    rw [Nat.pow_succ, Nat.add_mul, Nat.mul_assoc]
    omega
theorem readN_hex (x : UInt64) : readN 0 (hexW x) = some x.toNat := by
  rw [hexW_digs, readN_digs _ _ _ (by have := x.toNat_lt; omega)]
  simp
theorem hexL_len (l : List UInt64) : (hexL l).length = 16 * l.length := by
  induction l with
  | nil => rfl
  | cons x l ih =>
    have e : hexL (x :: l) = hexW x ++ hexL l := by unfold hexL; rw [List.flatMap_cons]
    rw [e, List.length_append, hexW_len, ih, List.length_cons]
    omega
theorem readL_hex (l : List UInt64) : readL l.length (hexL l) = some l := by
  induction l with
  | nil => rfl
  | cons x l ih =>
    have e : hexL (x :: l) = hexW x ++ hexL l := by unfold hexL; rw [List.flatMap_cons]
    have h1 : (hexW x ++ hexL l).take 16 = hexW x := by rw [← hexW_len x, List.take_left]
    have h2 : (hexW x ++ hexL l).drop 16 = hexL l := by rw [← hexW_len x, List.drop_left]
    rw [e, List.length_cons, readL, h1, h2, readN_hex, ih]
    simp
theorem parse_hex {L : Int} {l : List UInt64} (h : okB L l = true) : parseM (hexL l) = (0, L, l) := by
  have hk := h
  rw [okB_iff] at hk
  obtain ⟨h1, h2, h3⟩ := hk
  unfold parseM
  rw [hexL_len]
  have e1 : (4 : Int) * ((16 * l.length : Nat) : Int) = L := by omega
  have e2 : 16 * l.length / 16 = l.length := by omega
  have e3 : lenB L = true := by
    unfold okB at h
    simp only [Bool.and_eq_true] at h
    exact h.1
  have e4 : decide (16 * l.length % 16 = 0) = true := by simp
  rw [e1, e2, e3, e4, readL_hex]
  rfl
theorem lex_app (a b c d : List UInt8) (h : a.length = b.length) : a ++ c < b ++ d ↔ a < b ∨ (a = b ∧ c < d) := by
  induction a generalizing b with
  | nil =>
    cases b with
    | nil => simp
    | cons y b => simp at h
  | cons x a ih =>
    cases b with
    | nil => simp at h
    | cons y b =>
      rw [List.cons_append, List.cons_append, List.cons_lt_cons_iff, List.cons_lt_cons_iff, ih b (by simpa using h)]
      constructor
      · rintro (k | ⟨rfl, k | ⟨rfl, k⟩⟩)
        · exact .inl (.inl k)
        · exact .inl (.inr ⟨rfl, k⟩)
        · exact .inr ⟨rfl, k⟩
      · rintro ((k | ⟨rfl, k⟩) | ⟨h1, k⟩)
        · exact .inl k
        · exact .inr ⟨rfl, .inl k⟩
        · injection h1 with e1 e2
          subst e1 e2
          exact .inr ⟨rfl, .inr ⟨rfl, k⟩⟩
theorem digs_inj (n x y : Nat) (hx : x < 16 ^ n) (hy : y < 16 ^ n) : digs n x = digs n y ↔ x = y := by
  constructor
  · intro h
    have h1 := readN_digs n x 0 hx
    have h2 := readN_digs n y 0 hy
    rw [h, h2] at h1
    simp at h1
    exact h1.symm
  · rintro rfl
    rfl
theorem digs_lt (n x y : Nat) (hx : x < 16 ^ n) (hy : y < 16 ^ n) : digs n x < digs n y ↔ x < y := by
  induction n generalizing x y with
  | zero =>
    simp at hx hy
    subst hx hy
    simp [digs]
  | succ n ih =>
    have hx' : x / 16 < 16 ^ n := by rw [Nat.pow_succ] at hx; omega
    have hy' : y / 16 < 16 ^ n := by rw [Nat.pow_succ] at hy; omega
    simp only [digs]
    rw [lex_app _ _ _ _ (by rw [digs_len, digs_len]), ih _ _ hx' hy', digs_inj n _ _ hx' hy', List.cons_lt_cons_iff, dig_lt _ (Nat.mod_lt _ (by decide)) _ (Nat.mod_lt _ (by decide))]
    simp only [List.not_lt_nil, and_false, or_false]
    omega
theorem hexW_lt (x y : UInt64) : hexW x < hexW y ↔ x.toNat < y.toNat := by
  rw [hexW_digs, hexW_digs]
  exact digs_lt _ _ _ (by have := x.toNat_lt; omega) (by have := y.toNat_lt; omega)
theorem hexW_inj (x y : UInt64) : hexW x = hexW y ↔ x.toNat = y.toNat := by
  rw [hexW_digs, hexW_digs]
  exact digs_inj _ _ _ (by have := x.toNat_lt; omega) (by have := y.toNat_lt; omega)
theorem hexL_lt (l l' : List UInt64) (h : l.length = l'.length) : hexL l < hexL l' ↔ lexM l l' = -1 := by
  induction l generalizing l' with
  | nil =>
    cases l' with
    | nil => simp [hexL, lexM]
    | cons y l' => simp at h
  | cons x l ih =>
    cases l' with
    | nil => simp at h
    | cons y l' =>
      have e1 : hexL (x :: l) = hexW x ++ hexL l := by unfold hexL; rw [List.flatMap_cons]
      have e2 : hexL (y :: l') = hexW y ++ hexL l' := by unfold hexL; rw [List.flatMap_cons]
      rw [e1, e2, lex_app _ _ _ _ (by rw [hexW_len, hexW_len]), hexW_lt, hexW_inj, ih l' (by simpa using h)]
      simp only [lexM]
      split
      · simp; omega
      · split
        · simp; omega
        · constructor
          · rintro (h | ⟨_, h⟩)
            · omega
            · exact h
          · intro h
            exact .inr ⟨by omega, h⟩
theorem lexM_vals (l l' : List UInt64) : lexM l l' = -1 ∨ lexM l l' = 0 ∨ lexM l l' = 1 := by
  induction l generalizing l' with
  | nil => cases l' <;> simp [lexM]
  | cons x l ih =>
    cases l' with
    | nil => simp [lexM]
    | cons y l' =>
      simp only [lexM]
      split
      · simp
      · split
        · simp
        · exact ih l'
theorem cmp_lt {L : Int} {l l' : List UInt64} (h : l.length = l'.length) : (decide (cmpM L l L l' < 0) == decide (hexL l < hexL l')) = true := by
  have e : cmpM L l L l' = lexM l l' := by
    unfold cmpM
    rw [ordM_self, h, ordM_self]
    rfl
  rw [e, beq_iff_eq, decide_eq_decide, hexL_lt l l' h]
  have := lexM_vals l l'
  omega
theorem cmp_gt {L : Int} {l l' : List UInt64} (h : l.length = l'.length) : (decide (0 < cmpM L l L l') == decide (hexL l' < hexL l)) = true := by
  have h1 := cmp_lt (L := L) h.symm
  have h2 := cmpM_neg L l L l'
  rw [beq_iff_eq, decide_eq_decide] at h1 ⊢
  rw [← h1]
  omega
end Go.Proofs.Ytfcnodiepdnegaa.BM
