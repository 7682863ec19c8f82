/- Counting the bits of a word by adding neighbours, in plain numbers. No Go in sight. -/
import Derived.Test.YtfcnodiepdnegaaBitMath
namespace Go.Proofs.Ytfcnodiepdnegaa.BM
set_option linter.unusedVariables false
set_option maxRecDepth 100000

theorem cnt_add (q : Nat → Bool) (a b : Nat) : cnt q (a + b) = cnt q a + cnt (fun i => q (a + i)) b := by
  induction b with
  | zero => rfl
  | succ b ih =>
    rw [← Nat.add_assoc]
    show cnt q (a + b) + (q (a + b)).toNat = cnt q a + (cnt (fun i => q (a + i)) b + (q (a + b)).toNat)
    omega
theorem cnt_words (l : List UInt64) (k : Nat) (hk : k < l.length) : cnt (bitL l) (64 * (k + 1)) = cnt (bitL l) (64 * k) + cnt (bitW l[k]) 64 := by
  rw [Nat.mul_add, Nat.mul_one, cnt_add]
  congr 1
  apply cnt_congr
  intro i hi
  unfold bitL
  rw [show (64 * k + i) / 64 = k by omega, show (64 * k + i) % 64 = i by omega, List.getD_eq_getElem?_getD, List.getElem?_eq_getElem hk]
  rfl
/-- A byte repeated n times. -/
def rep (c : Nat) : Nat → Nat
  | 0 => 0
  | n + 1 => 256 * rep c n + c
/-- A function of bytes applied to each of n bytes of a number. -/
def mapB (f : Nat → Nat) : Nat → Nat → Nat
  | 0, _ => 0
  | n + 1, x => 256 * mapB f n (x / 256) + f (x % 256)
def sumB (f : Nat → Nat) : Nat → Nat → Nat
  | 0, _ => 0
  | n + 1, x => sumB f n (x / 256) + f (x % 256)
theorem and_split (a b c d : Nat) (hc : c < 256) (hd : d < 256) : (256 * a + c) &&& (256 * b + d) = 256 * (a &&& b) + (c &&& d) := by
  apply Nat.eq_of_testBit_eq
  intro i
  have hcd : c &&& d < 2 ^ 8 := Nat.lt_of_le_of_lt Nat.and_le_left hc
  rw [Nat.testBit_and, show (256 : Nat) = 2 ^ 8 from rfl, Nat.testBit_two_pow_mul_add a hc, Nat.testBit_two_pow_mul_add b hd, Nat.testBit_two_pow_mul_add (a &&& b) hcd]
  split
  · rw [Nat.testBit_and]
  · rw [Nat.testBit_and]
def f1 (b : Nat) : Nat := (b / 2 &&& 85) + (b &&& 85)
def f2 (b : Nat) : Nat := (b / 4 &&& 51) + (b &&& 51)
def f3 (b : Nat) : Nat := (b / 16 + b) &&& 15
theorem low1 : ∀ t, t < 2 → ∀ b, b < 256 → (128 * t + b / 2) &&& 85 = b / 2 &&& 85 := by decide
theorem low2 : ∀ t, t < 4 → ∀ b, b < 256 → (64 * t + b / 4) &&& 51 = b / 4 &&& 51 := by decide
theorem low3 : ∀ t, t < 5 → ∀ b, b < 69 → (16 * t + b / 16 + b) &&& 15 = (b / 16 + b) &&& 15 := by decide
theorem f1_lt : ∀ b, b < 256 → f1 b < 256 := by decide
theorem f12 : ∀ b, b < 256 → f2 (f1 b) < 69 ∧ f2 (f1 b) % 16 < 5 := by decide
theorem f123 : ∀ b, b < 256 → f3 (f2 (f1 b)) = cnt (fun i => b.testBit i) 8 := by decide
theorem step1 (n x : Nat) : (x / 2 &&& rep 85 n) + (x &&& rep 85 n) = mapB f1 n x := by
  induction n generalizing x with
  | zero => simp [rep, mapB]
  | succ n ih =>
    have e2 : x / 2 = 256 * (x / 256 / 2) + (128 * (x / 256 % 2) + x % 256 / 2) := by omega
    have h1 := and_split (x / 256 / 2) (rep 85 n) (128 * (x / 256 % 2) + x % 256 / 2) 85 (by omega) (by decide)
    have h2 := and_split (x / 256) (rep 85 n) (x % 256) 85 (Nat.mod_lt _ (by decide)) (by decide)
    rw [← e2, low1 _ (Nat.mod_lt _ (by decide)) _ (Nat.mod_lt _ (by decide))] at h1
    rw [show 256 * (x / 256) + x % 256 = x by omega] at h2
    have := ih (x / 256)
    show (x / 2 &&& (256 * rep 85 n + 85)) + (x &&& (256 * rep 85 n + 85)) = 256 * mapB f1 n (x / 256) + ((x % 256 / 2 &&& 85) + (x % 256 &&& 85))
    rw [h1, h2, ← this]
    omega
theorem step2 (n x : Nat) : (x / 4 &&& rep 51 n) + (x &&& rep 51 n) = mapB f2 n x := by
  induction n generalizing x with
  | zero => simp [rep, mapB]
  | succ n ih =>
    have e2 : x / 4 = 256 * (x / 256 / 4) + (64 * (x / 256 % 4) + x % 256 / 4) := by omega
    have h1 := and_split (x / 256 / 4) (rep 51 n) (64 * (x / 256 % 4) + x % 256 / 4) 51 (by omega) (by decide)
    have h2 := and_split (x / 256) (rep 51 n) (x % 256) 51 (Nat.mod_lt _ (by decide)) (by decide)
    rw [← e2, low2 _ (Nat.mod_lt _ (by decide)) _ (Nat.mod_lt _ (by decide))] at h1
    rw [show 256 * (x / 256) + x % 256 = x by omega] at h2
    have := ih (x / 256)
    show (x / 4 &&& (256 * rep 51 n + 51)) + (x &&& (256 * rep 51 n + 51)) = 256 * mapB f2 n (x / 256) + ((x % 256 / 4 &&& 51) + (x % 256 &&& 51))
    rw [h1, h2, ← this]
    omega
theorem map_map (f g : Nat → Nat) (hf : ∀ b, b < 256 → f b < 256) (n x : Nat) : mapB g n (mapB f n x) = mapB (fun b => g (f b)) n x := by
  induction n generalizing x with
  | zero => rfl
  | succ n ih =>
    have hb := hf (x % 256) (Nat.mod_lt _ (by decide))
    show 256 * mapB g n ((256 * mapB f n (x / 256) + f (x % 256)) / 256) + g ((256 * mapB f n (x / 256) + f (x % 256)) % 256) = 256 * mapB (fun b => g (f b)) n (x / 256) + g (f (x % 256))
    rw [show (256 * mapB f n (x / 256) + f (x % 256)) / 256 = mapB f n (x / 256) by omega, show (256 * mapB f n (x / 256) + f (x % 256)) % 256 = f (x % 256) by omega, ih]
theorem map_low (f : Nat → Nat) (hf : ∀ b, b < 256 → f b < 69 ∧ f b % 16 < 5) (n x : Nat) : mapB f n x % 16 < 5 := by
  cases n with
  | zero => exact show 0 < 5 by decide
  | succ n =>
    have := hf (x % 256) (Nat.mod_lt _ (by decide))
    show (256 * mapB f n (x / 256) + f (x % 256)) % 16 < 5
    omega
theorem step3 (f : Nat → Nat) (hf : ∀ b, b < 256 → f b < 69 ∧ f b % 16 < 5) (n x : Nat) : (mapB f n x / 16 + mapB f n x) &&& rep 15 n = mapB (fun b => f3 (f b)) n x := by
  induction n generalizing x with
  | zero => simp [rep, mapB]
  | succ n ih =>
    have hb := hf (x % 256) (Nat.mod_lt _ (by decide))
    have hy := map_low f hf n (x / 256)
    have h3 := low3 _ hy _ hb.1
    have := ih (x / 256)
    show ((256 * mapB f n (x / 256) + f (x % 256)) / 16 + (256 * mapB f n (x / 256) + f (x % 256))) &&& (256 * rep 15 n + 15) = 256 * mapB (fun b => f3 (f b)) n (x / 256) + f3 (f (x % 256))
    generalize f (x % 256) = b at *
    generalize mapB f n (x / 256) = y at *
    have h1 := and_split (y / 16 + y) (rep 15 n) (16 * (y % 16) + b / 16 + b) 15 (by omega) (by decide)
    rw [show 256 * (y / 16 + y) + (16 * (y % 16) + b / 16 + b) = (256 * y + b) / 16 + (256 * y + b) by omega] at h1
    rw [h1, this, h3]
    rfl
theorem map_lt (f : Nat → Nat) (k : Nat) (hf : ∀ b, b < 256 → f b ≤ k) (hk : k < 256) (n x : Nat) : mapB f n x ≤ rep k n := by
  induction n generalizing x with
  | zero => exact Nat.le_refl _
  | succ n ih =>
    have h1 := ih (x / 256)
    have h2 := hf (x % 256) (Nat.mod_lt _ (by decide))
    unfold mapB rep
    omega
/-- Eight small bytes are added by three shifts. -/
theorem gather (a0 a1 a2 a3 a4 a5 a6 a7 z y1 y2 : Nat) (h0 : a0 ≤ 8) (h1 : a1 ≤ 8) (h2 : a2 ≤ 8) (h3 : a3 ≤ 8) (h4 : a4 ≤ 8) (h5 : a5 ≤ 8) (h6 : a6 ≤ 8) (h7 : a7 ≤ 8)
    (hz : z = 256 * (256 * (256 * (256 * (256 * (256 * (256 * (256 * 0 + a7) + a6) + a5) + a4) + a3) + a2) + a1) + a0)
    (hy1 : y1 = z + z / 256) (hy2 : y2 = y1 + y1 / 65536) :
    y2 < 18446744073709551616 ∧ y1 < 18446744073709551616 ∧ y2 + y2 / 4294967296 < 9223372036854775808 ∧ (y2 + y2 / 4294967296) % 128 = a7 + a6 + a5 + a4 + a3 + a2 + a1 + a0 := by
  have e1 : z / 256 = 256 * (256 * (256 * (256 * (256 * (256 * a7 + a6) + a5) + a4) + a3) + a2) + a1 := by omega
  have e2 : y1 = 256 * (256 * (256 * (256 * (256 * (256 * (256 * a7 + (a6 + a7)) + (a5 + a6)) + (a4 + a5)) + (a3 + a4)) + (a2 + a3)) + (a1 + a2)) + (a0 + a1) := by omega
  have e3 : y1 / 65536 = 256 * (256 * (256 * (256 * (256 * a7 + (a6 + a7)) + (a5 + a6)) + (a4 + a5)) + (a3 + a4)) + (a2 + a3) := by omega
  have e4 : y2 = 256 * (256 * (256 * (256 * (256 * (256 * (256 * a7 + (a6 + a7)) + (a5 + a6 + a7)) + (a4 + a5 + (a6 + a7))) + (a3 + a4 + (a5 + a6))) + (a2 + a3 + (a4 + a5))) + (a1 + a2 + (a3 + a4))) + (a0 + a1 + (a2 + a3)) := by omega
  have e5 : y2 / 4294967296 = 256 * (256 * (256 * a7 + (a6 + a7)) + (a5 + a6 + a7)) + (a4 + a5 + (a6 + a7)) := by omega
  clear hz hy1 hy2 e1 e3
  refine ⟨by omega, by omega, by omega, by omega⟩
theorem sum_cnt (x n : Nat) : sumB (fun b => cnt (fun i => b.testBit i) 8) n x = cnt (fun i => x.testBit i) (8 * n) := by
  induction n generalizing x with
  | zero => rfl
  | succ n ih =>
    unfold sumB
    rw [ih, show 8 * (n + 1) = 8 + 8 * n by omega, cnt_add, Nat.add_comm]
    congr 1
    · apply cnt_congr
      intro i hi
      show (x % 2 ^ 8).testBit i = _
      rw [Nat.testBit_mod_two_pow, decide_eq_true hi, Bool.true_and]
    · apply cnt_congr
      intro i hi
      show (x / 2 ^ 8).testBit i = _
      rw [Nat.testBit_div_two_pow, Nat.add_comm]
/-- The whole count: each step as the program makes it. -/
theorem ones_steps (x x1 x2 x3 y1 y2 : Nat) (hx1 : x1 = (x / 2 &&& 6148914691236517205) + (x &&& 6148914691236517205)) (hx2 : x2 = (x1 / 4 &&& 3689348814741910323) + (x1 &&& 3689348814741910323))
    (hx3 : x3 = (x2 / 16 + x2) &&& 1085102592571150095) (hy1 : y1 = x3 + x3 / 256) (hy2 : y2 = y1 + y1 / 65536) :
    x1 < 18446744073709551616 ∧ x2 < 18446744073709551616 ∧ x2 / 16 + x2 < 18446744073709551616 ∧ x3 < 18446744073709551616 ∧ y1 < 18446744073709551616 ∧ y2 < 18446744073709551616 ∧ y2 + y2 / 4294967296 < 9223372036854775808 ∧ (y2 + y2 / 4294967296) % 128 = cnt (fun i => x.testBit i) 64 := by
  have e1 : x1 = mapB f1 8 x := hx1.trans (step1 8 x)
  have e2 : x2 = mapB (fun b => f2 (f1 b)) 8 x := by
    rw [← map_map f1 f2 f1_lt, ← e1]
    exact hx2.trans (step2 8 x1)
  have e3 : x3 = mapB (fun b => f3 (f2 (f1 b))) 8 x := by
    rw [← step3 (fun b => f2 (f1 b)) f12 8 x, ← e2]
    exact hx3
  have b1 : x1 ≤ rep 255 8 := by rw [e1]; exact map_lt f1 255 (fun b hb => Nat.le_of_lt_succ (f1_lt b hb)) (by decide) 8 x
  have b2 : x2 ≤ rep 68 8 := by rw [e2]; exact map_lt _ 68 (fun b hb => Nat.le_of_lt_succ (f12 b hb).1) (by decide) 8 x
  have r1 : rep 255 8 = 18446744073709551615 := by decide
  have r2 : rep 68 8 = 4919131752989213764 := by decide
  have hs := sum_cnt x 8
  have hp : ∀ b, b < 256 → f3 (f2 (f1 b)) ≤ 8 := fun b hb => by rw [f123 b hb]; exact cnt_bound _ 8
  have h8 : sumB (fun b => f3 (f2 (f1 b))) 8 x = cnt (fun i => x.testBit i) 64 := by
    rw [← hs]
    simp only [sumB]
    rw [f123 _ (Nat.mod_lt _ (by decide)), f123 _ (Nat.mod_lt _ (by decide)), f123 _ (Nat.mod_lt _ (by decide)), f123 _ (Nat.mod_lt _ (by decide)), f123 _ (Nat.mod_lt _ (by decide)), f123 _ (Nat.mod_lt _ (by decide)), f123 _ (Nat.mod_lt _ (by decide)), f123 _ (Nat.mod_lt _ (by decide))]
  have hg := gather _ _ _ _ _ _ _ _ x3 y1 y2 (hp _ (Nat.mod_lt x (by decide))) (hp _ (Nat.mod_lt (x / 256) (by decide))) (hp _ (Nat.mod_lt (x / 256 / 256) (by decide))) (hp _ (Nat.mod_lt (x / 256 / 256 / 256) (by decide))) (hp _ (Nat.mod_lt (x / 256 / 256 / 256 / 256) (by decide))) (hp _ (Nat.mod_lt (x / 256 / 256 / 256 / 256 / 256) (by decide))) (hp _ (Nat.mod_lt (x / 256 / 256 / 256 / 256 / 256 / 256) (by decide))) (hp _ (Nat.mod_lt (x / 256 / 256 / 256 / 256 / 256 / 256 / 256) (by decide))) e3 hy1 hy2
  obtain ⟨g1, g2, g3, g4⟩ := hg
  have b3 : x3 < 18446744073709551616 := by omega
  refine ⟨by omega, by omega, by omega, b3, g2, g1, g3, ?_⟩
  rw [g4, ← h8]
  simp only [sumB, Nat.zero_add]
end Go.Proofs.Ytfcnodiepdnegaa.BM
