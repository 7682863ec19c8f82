/- Layer 8 in plain words: the rounds, the words of eight bytes, the hash of a list of bytes. No Go in sight. -/
import Init.Data.List.Lemmas
namespace Go.Proofs.Ytfcnodiepdnegaa.SM
set_option linter.unusedVariables false
set_option maxRecDepth 100000

def rotl (x n : UInt64) : UInt64 := (x <<< n) ||| (x >>> (64 - n))
structure V where
  a : UInt64
  b : UInt64
  c : UInt64
  d : UInt64
def round (v : V) : V :=
  let a1 := v.a + v.b
  let b1 := rotl v.b 13 ^^^ a1
  let a2 := rotl a1 32
  let c1 := v.c + v.d
  let d1 := rotl v.d 16 ^^^ c1
  let a3 := a2 + d1
  let d2 := rotl d1 21 ^^^ a3
  let c2 := c1 + b1
  let b2 := rotl b1 17 ^^^ c2
  let c3 := rotl c2 32
  ⟨a3, b2, c3, d2⟩
def start (A B : UInt64) : V := ⟨A ^^^ 8317987319222330741, B ^^^ 7237128888997146477, A ^^^ 7816392313619706465, B ^^^ 8387220255154660723⟩
def absorb (v : V) (m : UInt64) : V :=
  let u := round (round { v with d := v.d ^^^ m })
  { u with a := u.a ^^^ m }
/-- The first i bytes as a number, the first one the lowest. -/
def word (l : List UInt8) : Nat → UInt64
  | 0 => 0
  | i + 1 => word l i ||| ((l.getD i 0).toUInt64 <<< (8 * i).toUInt64)
/-- The last group of bytes, with the number of all bytes on top. -/
def last (l : List UInt8) (tot : Nat) : UInt64 := word l l.length ||| ((tot % 256).toUInt64 <<< 56)
def run (tot : Nat) (v : V) (l : List UInt8) : V :=
  if h : l.length < 8 then absorb v (last l tot) else run tot (absorb v (word l 8)) (l.drop 8)
termination_by l.length
decreasing_by rw [List.length_drop]; omega
def fin (v : V) : UInt64 :=
  let u := round (round (round (round { v with c := v.c ^^^ 255 })))
  u.a ^^^ u.b ^^^ u.c ^^^ u.d
/-- The hash of a list of bytes under a key. -/
def sum (A B : UInt64) (l : List UInt8) : UInt64 := fin (run l.length (start A B) l)

theorem run_last (tot : Nat) (v : V) (l : List UInt8) (h : l.length < 8) : run tot v l = absorb v (last l tot) := by
  rw [run, dif_pos h]
theorem run_next (tot : Nat) (v : V) (l : List UInt8) (h : ¬ l.length < 8) : run tot v l = run tot (absorb v (word l 8)) (l.drop 8) := by
  rw [run, dif_neg h]
theorem sum_none : sum 0x0706050403020100 0x0f0e0d0c0b0a0908 [] = 0x726fdb47dd0e0e31 := by
  unfold sum
  rw [run_last _ _ _ (by decide)]
  decide +kernel
theorem sum_some : sum 0x0706050403020100 0x0f0e0d0c0b0a0908 [0, 1, 2, 3, 4, 5, 6, 7, 8, 9, 10, 11, 12, 13, 14] = 0xa129ca6149be45e5 := by
  unfold sum
  rw [run_next _ _ _ (by decide), run_last _ _ _ (by decide)]
  decide +kernel
end Go.Proofs.Ytfcnodiepdnegaa.SM
