/- A slice of bytes, and the walk of the reference's Sum. -/
import Derived.Test.YtlcfpdbiippenaaSipWord
namespace Go.Proofs.Ytlcfpdbiippenaa
open Go.RowKit
set_option linter.unusedVariables false
set_option maxRecDepth 100000

/-- A slice value that reads as a list of bytes; all its cells lie below block B. -/
def IsBs (B : Nat) (w : World) (v : Value) (l : List UInt8) : Prop :=
  ∃ (a : Option Addr) (c : Nat), v = .slice a l.length c ∧ l.length ≤ c ∧ c ≤ maxLen ∧ (l = [] ∨ ∃ b o, a = some ⟨b, o, none⟩ ∧ b < B ∧ ∀ j x, l[j]? = some x → w.cell? ⟨b, o + j, none⟩ = some (.int .u8 (x.toNat : Int)))
theorem IsBs.keep {B : Nat} {w w' : World} {v : Value} {l : List UInt8} (h : IsBs B w v l) (hb : Below B w w') : IsBs B w' v l := by
  obtain ⟨a, c, hv, h1, h2, h3⟩ := h
  refine ⟨a, c, hv, h1, h2, ?_⟩
  rcases h3 with h3 | ⟨b, o, ha, hlt, hc⟩
  · exact .inl h3
  · exact .inr ⟨b, o, ha, hlt, fun j x hx => (hb.cell (p := ⟨b, o + j, none⟩) hlt).trans (hc j x hx)⟩
theorem IsBs.more {B B' : Nat} {w : World} {v : Value} {l : List UInt8} (h : IsBs B w v l) (hb : B ≤ B') : IsBs B' w v l := by
  obtain ⟨a, c, hv, h1, h2, h3⟩ := h
  refine ⟨a, c, hv, h1, h2, ?_⟩
  rcases h3 with h3 | ⟨b, o, ha, hlt, hc⟩
  · exact .inl h3
  · exact .inr ⟨b, o, ha, by omega, hc⟩
theorem IsBs.cells {B : Nat} {w : World} {v : Value} {l : List UInt8} (h : IsBs B w v l) : ∃ A c, v = .slice A l.length c ∧ l.length ≤ c ∧ c ≤ maxLen ∧ ∀ k, ∀ hk : k < l.length, ∃ b o, A = some ⟨b, o, none⟩ ∧ b < B ∧ w.cell? ⟨b, o + k, none⟩ = some (.int .u8 (l[k].toNat : Int)) := by
  obtain ⟨a, c, hv, h1, h2, h3⟩ := h
  refine ⟨a, c, hv, h1, h2, fun k hk => ?_⟩
  rcases h3 with h3 | ⟨b, o, ha, hlt, hc⟩
  · rw [h3] at hk
    exact absurd hk (Nat.not_lt_zero _)
  · exact ⟨b, o, ha, hlt, hc k _ (List.getElem?_eq_getElem hk)⟩

def keyV (A B : UInt64) : Value := .agg #[.int .u64 (n64 A), .int .u64 (n64 B)]
theorem min2u {W : World} (ts : Array TypeId) (t : TypeId) (x y : Int) (M : Nat) (h : (M : Int) = min x y) : (Builtin.min_ ts t #[.int .i64 x, .int .i64 y]).run Try.prog W = .ok (.int .i64 (M : Int)) W := by
  rw [run_min_int2]
  congr 2
  rw [h]
  split <;> omega
/-- The state of the hash in a block of its own. -/
def VAt (b : Nat) (w : World) (v : SM.V) : Prop := w.heap[b]? = some (.cells #[.int .u64 (n64 v.a), .int .u64 (n64 v.b), .int .u64 (n64 v.c), .int .u64 (n64 v.d)] 53 (0, 0))
theorem VAt.put0 {b : Nat} {w : World} {v : SM.V} (h : VAt b w v) (u : UInt64) : VAt b (w.setCell ⟨b, 0, none⟩ (.int .u64 (n64 u))) { v with a := u } := cells_set h 0 _
theorem VAt.put1 {b : Nat} {w : World} {v : SM.V} (h : VAt b w v) (u : UInt64) : VAt b (w.setCell ⟨b, 1, none⟩ (.int .u64 (n64 u))) { v with b := u } := cells_set h 1 _
theorem VAt.put2 {b : Nat} {w : World} {v : SM.V} (h : VAt b w v) (u : UInt64) : VAt b (w.setCell ⟨b, 2, none⟩ (.int .u64 (n64 u))) { v with c := u } := cells_set h 2 _
theorem VAt.put3 {b : Nat} {w : World} {v : SM.V} (h : VAt b w v) (u : UInt64) : VAt b (w.setCell ⟨b, 3, none⟩ (.int .u64 (n64 u))) { v with d := u } := cells_set h 3 _
theorem VAt.put {b : Nat} {w : World} {v : SM.V} (h : VAt b w v) (u : SM.V) :
    VAt b ((((w.setCell ⟨b, 0, none⟩ (.int .u64 (n64 u.a))).setCell ⟨b, 1, none⟩ (.int .u64 (n64 u.b))).setCell ⟨b, 2, none⟩ (.int .u64 (n64 u.c))).setCell ⟨b, 3, none⟩ (.int .u64 (n64 u.d))) u :=
  (((h.put0 u.a).put1 u.b).put2 u.c).put3 u.d
theorem VAt.parts {b : Nat} {w : World} {v : SM.V} (h : VAt b w v) : (w.cell? ⟨b, 0, none⟩ = some (.int .u64 (n64 v.a)) ∧ w.cell? ⟨b, 1, none⟩ = some (.int .u64 (n64 v.b)) ∧ w.cell? ⟨b, 2, none⟩ = some (.int .u64 (n64 v.c)) ∧ w.cell? ⟨b, 3, none⟩ = some (.int .u64 (n64 v.d))) ∧
    w.frozen? ⟨b, 0, none⟩ = false ∧ w.frozen? ⟨b, 1, none⟩ = false ∧ w.frozen? ⟨b, 2, none⟩ = false ∧ w.frozen? ⟨b, 3, none⟩ = false :=
  ⟨⟨by rw [cell_of_row _ _ _ _ _ _ h]; rfl, by rw [cell_of_row _ _ _ _ _ _ h]; rfl, by rw [cell_of_row _ _ _ _ _ _ h]; rfl, by rw [cell_of_row _ _ _ _ _ _ h]; rfl⟩, Lib.frozen_of_heap h 0, Lib.frozen_of_heap h 1, Lib.frozen_of_heap h 2, Lib.frozen_of_heap h 3⟩
theorem VAt.keep {b B : Nat} {w w' : World} {v : SM.V} (h : VAt b w v) (hb : Below B w w') (hB : b < B) : VAt b w' v := (hb.block b hB).trans h
theorem n64_byte (c : UInt8) : IntKind.u64.wrap (c.toNat : Int) = n64 c.toUInt64 := by
  have := c.toNat_lt
  rw [wrapU]
  unfold n64
  rw [UInt8.toNat_toUInt64, Nat.mod_eq_of_lt (by omega)]
theorem n64_nat (k : Nat) (hk : k < 18446744073709551616) : IntKind.u64.wrap (k : Int) = n64 k.toUInt64 := by
  rw [wrapU]
  unfold n64
  have e : k.toUInt64.toNat = k % 18446744073709551616 := rfl
  rw [e]
theorem word_next (l : List UInt8) (p i : Nat) (h : p + i < l.length) (hi : i < 8) : bits .or .u64 (n64 (SM.word (l.drop p) i)) (IntKind.u64.wrap (IntKind.u64.wrap (l[p + i].toNat : Int) * 2 ^ (8 * i))) = n64 (SM.word (l.drop p) (i + 1)) := by
  have e : (2 : Int) ^ (8 * i) = ((2 ^ (8 * i) : Nat) : Int) := by rw [Int.natCast_pow]; rfl
  rw [n64_byte, e, n64_shl _ (8 * i) (by omega), n64_or]
  have g : (l.drop p).getD i 0 = l[p + i] := by
    rw [List.getD_eq_getElem?_getD, List.getElem?_drop, List.getElem?_eq_getElem h]
    rfl
  rw [SM.word, g]
theorem word_last (l : List UInt8) (p : Nat) (hp : p ≤ l.length) (tot : Nat) : bits .or .u64 (n64 (SM.word (l.drop p) (l.length - p))) ((tot : Int) % 256 * 72057594037927936) = n64 (SM.last (l.drop p) tot) := by
  have e0 : (tot : Int) % 256 * 72057594037927936 = IntKind.u64.wrap (IntKind.u64.wrap ((tot : Int) % 256) * 72057594037927936) := by
    simp [IntKind.wrap, IntKind.bits, IntKind.signed]
    omega
  rw [e0]
  have e : (72057594037927936 : Int) = ((2 ^ 56 : Nat) : Int) := by decide
  have e2 : (tot : Int) % 256 = ((tot % 256 : Nat) : Int) := by omega
  rw [e2, n64_nat _ (by omega), e, n64_shl _ 56 (by decide), n64_or]
  unfold SM.last
  rw [List.length_drop]
  rfl

set_option maxHeartbeats 2000000 in
theorem rSum_any (B : Nat) (kA kB : UInt64) (v : Value) (l : List UInt8) (w : World) (h : IsBs B w v l) (hB : B ≤ w.heap.size) (hl : l.length ≤ 1000000000) :
    Calls Try.prog 14 #[keyV kA kB, v] w fun e w' => e = .returned (.int .u64 (n64 (SM.sum kA kB l))) ∧ Below w.heap.size w w' := by
  obtain ⟨A, cap, rfl, hc1, hc2, hc⟩ := h.cells
  unfold maxLen at hc2
  have HC := Lib.hid hc
  clear hc h
  have x0 : bits .xor .u64 (n64 kA) 8317987319222330741 = n64 (kA ^^^ 8317987319222330741) := n64_xor kA 8317987319222330741
  have x1 : bits .xor .u64 (n64 kB) 7237128888997146477 = n64 (kB ^^^ 7237128888997146477) := n64_xor kB 7237128888997146477
  have x2 : bits .xor .u64 (n64 kA) 7816392313619706465 = n64 (kA ^^^ 7816392313619706465) := n64_xor kA 7816392313619706465
  have x3 : bits .xor .u64 (n64 kB) 8387220255154660723 = n64 (kB ^^^ 8387220255154660723) := n64_xor kB 8387220255154660723
  unfold keyV
  go_enter Try.func14, Try.ntmps14
  go_wp2
  have HV0 := Lib.hid (show VAt (w.heap.size + 1) ((w.alloc (.cells #[.int .u64 (n64 kA), .int .u64 (n64 kB)] 25)).alloc (.cells #[.int .u64 (n64 (kA ^^^ 8317987319222330741)), .int .u64 (n64 (kB ^^^ 7237128888997146477)), .int .u64 (n64 (kA ^^^ 7816392313619706465)), .int .u64 (n64 (kB ^^^ 8387220255154660723))] 53)) (SM.start kA kB) from heap_two8 w _ _ _)
  have HB0 := Lib.hid (two_new8 w (.cells #[.int .u64 (n64 kA), .int .u64 (n64 kB)] 25) (.cells #[.int .u64 (n64 (kA ^^^ 8317987319222330741)), .int .u64 (n64 (kB ^^^ 7237128888997146477)), .int .u64 (n64 (kA ^^^ 7816392313619706465)), .int .u64 (n64 (kB ^^^ 8387220255154660723))] 53))
  clear x0 x1 x2 x3
  go_loopw [6] (fun av wr => ∃ (p : Nat) (v : SM.V), p ≤ l.length ∧ av = .int .i64 p ∧ SM.run l.length v (l.drop p) = SM.run l.length (SM.start kA kB) l ∧ VAt (w.heap.size + 1) wr v ∧ w.heap.size + 2 ≤ wr.heap.size ∧ Below w.heap.size w wr) (fun av _ => l.length + 8 - (intOf av).toNat)
  case atStart => exact ⟨0, SM.start kA kB, Nat.zero_le _, rfl, rfl, HV0.out, by simp, HB0.out⟩
  case round =>
    obtain ⟨p, ⟨va, vb, vc, vd⟩, hp, rfl, hrun, hv, hsz, hbw⟩ := hrel
    have HR := Lib.hid hrun
    have HV := Lib.hid hv
    clear hrun hv
    obtain ⟨N, hN⟩ : ∃ N, N = min 8 (l.length - p) := ⟨_, rfl⟩
    have hmn := fun (W : World) (ts : Array TypeId) (ty : TypeId) => min2u (W := W) ts ty 8 ((l.length : Int) - (p : Int)) N (by omega)
    have hN8 : N ≤ 8 := by omega
    have hNp : p + N ≤ l.length := by omega
    have HN := Lib.hid hN
    clear hN
    go_wp2
    go_loop [7, 9] (fun mv iv => ∃ i : Nat, i ≤ N ∧ iv = .int .i64 i ∧ mv = .int .u64 (n64 (SM.word (l.drop p) i))) (fun _ iv => N - (intOf iv).toNat)
    case atStart => exact ⟨0, Nat.zero_le _, rfl, rfl⟩
    case round =>
      obtain ⟨i, hi, rfl, rfl⟩ := hrel
      by_cases hiN : i < N
      · obtain ⟨b, o, rfl, hbB, hcell⟩ := HC.out (p + i) (by omega)
        have c0 := (hbw.cell (p := ⟨b, o + (p + i), none⟩) (by show b < w.heap.size; omega)).trans hcell
        have i1 : (i : Int) < (N : Int) := by omega
        have i2 : (p : Int) + (i : Int) < (l.length : Int) := by omega
        have i3 : (0 : Int) ≤ (p : Int) + (i : Int) := by omega
        clear hcell
        have HWN := Lib.hid (word_next l p i (by omega) (by omega))
        go_wp2
        exact ⟨⟨i + 1, by omega, by go_num, by rw [HWN.out]⟩, by simp [intOf]; omega⟩
      · obtain rfl : i = N := by omega
        obtain ⟨⟨z0, z1, z2, z3⟩, f0, f1, f2, f3⟩ := HV.out.parts
        have hi' := HN.out
        by_cases h8 : i = 8
        · have hp8 : p + 8 ≤ l.length := by omega
          subst h8
          have HRN := Lib.hid (show SM.run l.length (SM.absorb ⟨va, vb, vc, vd⟩ (SM.word (l.drop p) 8)) (l.drop (p + 8)) = SM.run l.length (SM.start kA kB) l by
            rw [← HR.out, SM.run_next _ _ (l.drop p) (by rw [List.length_drop]; omega), List.drop_drop])
          clear hi' hmn HN
          generalize SM.word (l.drop p) 8 = M at *
          have hX1 := n64_xor vd M
          have HD1 := Lib.hid (fun W => rround_any ⟨va, vb, vc, vd ^^^ M⟩ W)
          have HD2 := Lib.hid (fun W => rround_any (SM.round ⟨va, vb, vc, vd ^^^ M⟩) W)
          unfold vV at HD1 HD2
          simp only at HD1 z0 z1 z2 z3
          have HAB := Lib.hid (show SM.absorb ⟨va, vb, vc, vd⟩ M = ⟨(SM.round (SM.round ⟨va, vb, vc, vd ^^^ M⟩)).a ^^^ M, (SM.round (SM.round ⟨va, vb, vc, vd ^^^ M⟩)).b, (SM.round (SM.round ⟨va, vb, vc, vd ^^^ M⟩)).c, (SM.round (SM.round ⟨va, vb, vc, vd ^^^ M⟩)).d⟩ from rfl)
          generalize SM.round (SM.round ⟨va, vb, vc, vd ^^^ M⟩) = R2 at HD2 HAB
          generalize SM.round ⟨va, vb, vc, vd ^^^ M⟩ = R1 at HD1 HD2
          have HV1 := Lib.hid (HV.out.put3 (vd ^^^ M))
          have HB1 := Lib.hid (hbw.setCell (p := ⟨w.heap.size + 1, 3, none⟩) (Nat.le_succ _) (.int .u64 (n64 (vd ^^^ M))))
          go_wp2_with fail
          refine (HD1.out _).mono ?_
          rintro e w2 ⟨rfl, d2⟩
          go_wp2_with fail
          refine (HD2.out _).mono ?_
          rintro e w3 ⟨rfl, d3⟩
          have hs2 : wr.heap.size ≤ w2.heap.size := by have := d2.size; simpa [World.setCell] using this
          have d3' := d2.trans (d3.mono d2.size)
          have HV3 := Lib.hid (HV1.out.keep d3' (by simp [World.setCell]; omega))
          have HB3 := Lib.hid (HB1.out.trans (d3'.mono (by simp [World.setCell]; omega)))
          obtain ⟨⟨y0, y1, y2, y3⟩, e0, e1, e2, e3⟩ := HV3.out.parts
          have hs3 : wr.heap.size ≤ w3.heap.size := by have := d3'.size; simpa [World.setCell] using this
          clear d2 d3 d3' z0 z1 z2 z3 f0 f1 f2 f3
          have hX2 := n64_xor R2.a M
          have HV5 := Lib.hid (show VAt (w.heap.size + 1) (((((w3.setCell ⟨w.heap.size + 1, 0, none⟩ (.int .u64 (n64 R2.a))).setCell ⟨w.heap.size + 1, 1, none⟩ (.int .u64 (n64 R2.b))).setCell ⟨w.heap.size + 1, 2, none⟩ (.int .u64 (n64 R2.c))).setCell ⟨w.heap.size + 1, 3, none⟩ (.int .u64 (n64 R2.d))).setCell ⟨w.heap.size + 1, 0, none⟩ (.int .u64 (n64 (R2.a ^^^ M)))) ⟨R2.a ^^^ M, R2.b, R2.c, R2.d⟩ from (HV3.out.put R2).put0 (R2.a ^^^ M))
          have HB5 := Lib.hid (show Below w.heap.size w (((((w3.setCell ⟨w.heap.size + 1, 0, none⟩ (.int .u64 (n64 R2.a))).setCell ⟨w.heap.size + 1, 1, none⟩ (.int .u64 (n64 R2.b))).setCell ⟨w.heap.size + 1, 2, none⟩ (.int .u64 (n64 R2.c))).setCell ⟨w.heap.size + 1, 3, none⟩ (.int .u64 (n64 R2.d))).setCell ⟨w.heap.size + 1, 0, none⟩ (.int .u64 (n64 (R2.a ^^^ M)))) from (((((HB3.out.setCell (p := ⟨w.heap.size + 1, 0, none⟩) (Nat.le_succ _) _).setCell (p := ⟨w.heap.size + 1, 1, none⟩) (Nat.le_succ _) _).setCell (p := ⟨w.heap.size + 1, 2, none⟩) (Nat.le_succ _) _).setCell (p := ⟨w.heap.size + 1, 3, none⟩) (Nat.le_succ _) _).setCell (p := ⟨w.heap.size + 1, 0, none⟩) (Nat.le_succ _) _))
          go_wp2
          exact ⟨⟨p + 8, _, hp8, by go_num, by rw [← HAB.out]; exact HRN.out, HV5.out, by simp [World.setCell]; omega, HB5.out⟩, by simp [intOf]; omega⟩
        · have hi2 : i = l.length - p := by omega
          have i1 : (i : Int) < 8 := by omega
          have hlast := word_last l p hp l.length
          rw [← hi2] at hlast
          have HRL := Lib.hid (SM.run_last l.length ⟨va, vb, vc, vd⟩ (l.drop p) (by rw [List.length_drop]; omega))
          clear hi' hi2 hmn HN
          generalize SM.last (l.drop p) l.length = M at *
          have HV1 := Lib.hid (HV.out.put3 (vd ^^^ M))
          have HB1 := Lib.hid (hbw.setCell (p := ⟨w.heap.size + 1, 3, none⟩) (Nat.le_succ _) (.int .u64 (n64 (vd ^^^ M))))
          have hX1 := n64_xor vd M
          have HD1 := Lib.hid (fun W => rround_any ⟨va, vb, vc, vd ^^^ M⟩ W)
          have HD2 := Lib.hid (fun W => rround_any (SM.round ⟨va, vb, vc, vd ^^^ M⟩) W)
          unfold vV at HD1 HD2
          simp only at HD1 z0 z1 z2 z3
          generalize hR1 : SM.round ⟨va, vb, vc, vd ^^^ M⟩ = R1 at HD1 HD2
          have HR1 := Lib.hid hR1
          clear hR1
          go_wp2_with fail
          refine (HD1.out _).mono ?_
          rintro e w2 ⟨rfl, d2⟩
          go_wp2_with fail
          refine (HD2.out _).mono ?_
          rintro e w3 ⟨rfl, d3⟩
          have hs2 : wr.heap.size ≤ w2.heap.size := by have := d2.size; simpa [World.setCell] using this
          have d3' := d2.trans (d3.mono d2.size)
          have HV3 := Lib.hid (HV1.out.keep d3' (by simp [World.setCell]; omega))
          have HB3 := Lib.hid (HB1.out.trans (d3'.mono (by simp [World.setCell]; omega)))
          obtain ⟨⟨y0, y1, y2, y3⟩, e0, e1, e2, e3⟩ := HV3.out.parts
          have hs3 : wr.heap.size ≤ w3.heap.size := by have := d3'.size; simpa [World.setCell] using this
          clear d2 d3 d3' z0 z1 z2 z3 f0 f1 f2 f3
          generalize hR2 : SM.round R1 = R2 at *
          have HR2 := Lib.hid hR2
          clear hR2
          have hX2 := n64_xor R2.a M
          have hX3 : bits .xor .u64 (n64 R2.c) 255 = n64 (R2.c ^^^ 255) := n64_xor R2.c 255
          have HV6 := Lib.hid (show VAt (w.heap.size + 1) ((((((w3.setCell ⟨w.heap.size + 1, 0, none⟩ (.int .u64 (n64 R2.a))).setCell ⟨w.heap.size + 1, 1, none⟩ (.int .u64 (n64 R2.b))).setCell ⟨w.heap.size + 1, 2, none⟩ (.int .u64 (n64 R2.c))).setCell ⟨w.heap.size + 1, 3, none⟩ (.int .u64 (n64 R2.d))).setCell ⟨w.heap.size + 1, 0, none⟩ (.int .u64 (n64 (R2.a ^^^ M)))).setCell ⟨w.heap.size + 1, 2, none⟩ (.int .u64 (n64 (R2.c ^^^ 255)))) ⟨R2.a ^^^ M, R2.b, R2.c ^^^ 255, R2.d⟩ from ((HV3.out.put R2).put0 (R2.a ^^^ M)).put2 (R2.c ^^^ 255))
          obtain ⟨⟨t0, t1, t2, t3⟩, s0, s1, s2, s3⟩ := HV6.out.parts
          simp only at t0 t1 t2 t3
          have HB6 := Lib.hid ((((((HB3.out.setCell (p := ⟨w.heap.size + 1, 0, none⟩) (Nat.le_succ _) (.int .u64 (n64 R2.a))).setCell (p := ⟨w.heap.size + 1, 1, none⟩) (Nat.le_succ _) (.int .u64 (n64 R2.b))).setCell (p := ⟨w.heap.size + 1, 2, none⟩) (Nat.le_succ _) (.int .u64 (n64 R2.c))).setCell (p := ⟨w.heap.size + 1, 3, none⟩) (Nat.le_succ _) (.int .u64 (n64 R2.d))).setCell (p := ⟨w.heap.size + 1, 0, none⟩) (Nat.le_succ _) (.int .u64 (n64 (R2.a ^^^ M)))).setCell (p := ⟨w.heap.size + 1, 2, none⟩) (Nat.le_succ _) (.int .u64 (n64 (R2.c ^^^ 255))))
          have H1 := Lib.hid (fun W => rround_any ⟨R2.a ^^^ M, R2.b, R2.c ^^^ 255, R2.d⟩ W)
          unfold vV at H1
          simp only at H1
          have HFIN := Lib.hid (show SM.sum kA kB l = SM.fin (SM.absorb ⟨va, vb, vc, vd⟩ M) by
            unfold SM.sum
            rw [← HR.out, HRL.out])
          have HAB := Lib.hid (show SM.fin (SM.absorb ⟨va, vb, vc, vd⟩ M) = (SM.round (SM.round (SM.round (SM.round ⟨R2.a ^^^ M, R2.b, R2.c ^^^ 255, R2.d⟩)))).a ^^^ (SM.round (SM.round (SM.round (SM.round ⟨R2.a ^^^ M, R2.b, R2.c ^^^ 255, R2.d⟩)))).b ^^^ (SM.round (SM.round (SM.round (SM.round ⟨R2.a ^^^ M, R2.b, R2.c ^^^ 255, R2.d⟩)))).c ^^^ (SM.round (SM.round (SM.round (SM.round ⟨R2.a ^^^ M, R2.b, R2.c ^^^ 255, R2.d⟩)))).d by
            rw [← HR2.out, ← HR1.out]
            rfl)
          have H2 := Lib.hid (fun W => rround_any (SM.round ⟨R2.a ^^^ M, R2.b, R2.c ^^^ 255, R2.d⟩) W)
          have H3 := Lib.hid (fun W => rround_any (SM.round (SM.round ⟨R2.a ^^^ M, R2.b, R2.c ^^^ 255, R2.d⟩)) W)
          have H4 := Lib.hid (fun W => rround_any (SM.round (SM.round (SM.round ⟨R2.a ^^^ M, R2.b, R2.c ^^^ 255, R2.d⟩))) W)
          unfold vV at H2 H3 H4
          generalize SM.round (SM.round (SM.round (SM.round ⟨R2.a ^^^ M, R2.b, R2.c ^^^ 255, R2.d⟩))) = F4 at H4 HAB
          generalize SM.round (SM.round (SM.round ⟨R2.a ^^^ M, R2.b, R2.c ^^^ 255, R2.d⟩)) = F3 at H3 H4
          generalize SM.round (SM.round ⟨R2.a ^^^ M, R2.b, R2.c ^^^ 255, R2.d⟩) = F2 at H2 H3
          generalize SM.round ⟨R2.a ^^^ M, R2.b, R2.c ^^^ 255, R2.d⟩ = F1 at H1 H2
          have u1 := n64_xor F4.a F4.b
          have u2 := n64_xor (F4.a ^^^ F4.b) F4.c
          have u3 := n64_xor (F4.a ^^^ F4.b ^^^ F4.c) F4.d
          go_wp2_with fail
          refine (H1.out _).mono ?_
          rintro e w4 ⟨rfl, d4⟩
          go_wp2_with fail
          refine (H2.out _).mono ?_
          rintro e w5 ⟨rfl, d5⟩
          have d45 := d4.trans (d5.mono d4.size)
          go_wp2_with fail
          refine (H3.out _).mono ?_
          rintro e w6 ⟨rfl, d6⟩
          have d46 := d45.trans (d6.mono d45.size)
          go_wp2_with fail
          refine (H4.out _).mono ?_
          rintro e w7 ⟨rfl, d7⟩
          have d47 := d46.trans (d7.mono d46.size)
          have HV7 := Lib.hid (HV6.out.keep d47 (by simp [World.setCell]; omega))
          have HB7 := Lib.hid (HB6.out.trans (d47.mono (by simp [World.setCell]; omega)))
          clear d4 d5 d45 d6 d46 d7 d47 t0 t1 t2 t3 s0 s1 s2 s3 y0 y1 y2 y3 e0 e1 e2 e3
          obtain ⟨⟨t0, t1, t2, t3⟩, s0, s1, s2, s3⟩ := HV7.out.parts
          have HV8 := Lib.hid (show VAt (w.heap.size + 1) ((((w7.setCell ⟨w.heap.size + 1, 0, none⟩ (.int .u64 (n64 F4.a))).setCell ⟨w.heap.size + 1, 1, none⟩ (.int .u64 (n64 F4.b))).setCell ⟨w.heap.size + 1, 2, none⟩ (.int .u64 (n64 F4.c))).setCell ⟨w.heap.size + 1, 3, none⟩ (.int .u64 (n64 F4.d))) F4 from HV7.out.put F4)
          obtain ⟨⟨r0, r1, r2, r3⟩, -⟩ := HV8.out.parts
          go_wp2
          go_ret
          refine ⟨?_, ?_⟩
          · rw [HFIN.out, HAB.out]
            rfl
          · exact (((HB7.out.setCell (p := ⟨w.heap.size + 1, 0, none⟩) (Nat.le_succ _) _).setCell (p := ⟨w.heap.size + 1, 1, none⟩) (Nat.le_succ _) _).setCell (p := ⟨w.heap.size + 1, 2, none⟩) (Nat.le_succ _) _).setCell (p := ⟨w.heap.size + 1, 3, none⟩) (Nat.le_succ _) _
end Go.Proofs.Ytlcfpdbiippenaa
