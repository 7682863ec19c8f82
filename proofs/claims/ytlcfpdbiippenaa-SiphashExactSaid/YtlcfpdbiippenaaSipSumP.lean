/- The walk of the program's Sum. -/
import Derived.Test.YtlcfpdbiippenaaSipAbs
namespace Go.Proofs.Ytlcfpdbiippenaa
open Go.RowKit
set_option linter.unusedVariables false
set_option maxRecDepth 100000

def lenOf : Value → Nat
  | .slice _ n _ => n
  | _ => 0
theorem word_top (m : List UInt8) (tot : Nat) : bits .or .u64 (n64 (SM.word m m.length)) (IntKind.u64.wrap ((tot : Int) * 72057594037927936)) = n64 (SM.last m tot) := by
  have e0 : IntKind.u64.wrap ((tot : Int) * 72057594037927936) = (tot : Int) % 256 * 72057594037927936 := by
    simp [IntKind.wrap, IntKind.bits, IntKind.signed]
    omega
  have := word_last m 0 (Nat.zero_le _) tot
  rw [e0]
  simpa using this
theorem word_front (m : List UInt8) (h : 8 ≤ m.length) : SM.word (m.take 8) 8 = SM.word m 8 := by
  simp [SM.word, List.getD_eq_getElem?_getD]
theorem IsBs.front {B : Nat} {w : World} {b o c : Nat} {m : List UInt8} (h : IsBs B w (.slice (some ⟨b, o, none⟩) m.length c) m) (h8 : 8 ≤ m.length) : IsBs B w (.slice (some ⟨b, o, none⟩) 8 c) (m.take 8) := by
  obtain ⟨a, c', hv, h1, h2, h3⟩ := h
  injection hv with e1 e2 e3
  subst e3 e1
  refine ⟨some ⟨b, o, none⟩, c, by rw [List.length_take, Nat.min_eq_left h8], by rw [List.length_take]; omega, h2, ?_⟩
  rcases h3 with h3 | ⟨b', o', ha, hlt, hc⟩
  · rw [h3] at h8
    exact absurd h8 (by decide)
  · refine .inr ⟨b', o', ha, hlt, fun j x hx => hc j x ?_⟩
    rw [List.getElem?_take] at hx
    split at hx
    · exact hx
    · cases hx
theorem IsBs.back {B : Nat} {w : World} {b o c : Nat} {m : List UInt8} (h : IsBs B w (.slice (some ⟨b, o, none⟩) m.length c) m) (h8 : 8 ≤ m.length) : IsBs B w (.slice (if c = 8 then some ⟨b, o, none⟩ else some ⟨b, o + 8, none⟩) (m.length - 8) (c - 8)) (m.drop 8) := by
  obtain ⟨a, c', hv, h1, h2, h3⟩ := h
  injection hv with e1 e2 e3
  subst e3 e1
  refine ⟨_, c - 8, by rw [List.length_drop], by rw [List.length_drop]; omega, by omega, ?_⟩
  rcases h3 with h3 | ⟨b', o', ha, hlt, hc⟩
  · rw [h3] at h8
    exact absurd h8 (by decide)
  · injection ha with ha
    injection ha with e4 e5
    subst e4 e5
    by_cases e : c = 8
    · exact .inl (List.drop_eq_nil_of_le (by omega))
    · refine .inr ⟨b, o + 8, if_neg e, hlt, fun j x hx => ?_⟩
      rw [List.getElem?_drop] at hx
      have := hc (8 + j) x hx
      rwa [← Nat.add_assoc] at this
theorem below_of_drew {w w' : World} (h : Below w.drew.heap.size w.drew w') : Below w.heap.size w w' := ((Below.refl _ w).drew).trans h

set_option maxHeartbeats 2000000 in
theorem sSum_any (B : Nat) (kA kB : UInt64) (v : Value) (l : List UInt8) (w : World) (h : IsBs B w v l) (hB : B ≤ w.heap.size) (hl : l.length ≤ 100000000) :
    Calls Try.prog 13 #[keyV kA kB, v] w fun e w' => e = .returned (.int .u64 (n64 (SM.sum kA kB l))) ∧ Below w.heap.size w w' := by
  have HI := Lib.hid h
  obtain ⟨A, cap, rfl, hc1, hc2, -⟩ := h.cells
  clear h
  unfold maxLen at hc2
  have HBEG := Lib.hid (fun W => begin_any kA kB W)
  unfold keyV vV at HBEG
  have k0 := fun (T : TypeId) => new_cellB w #[.int .u64 (n64 kA), .int .u64 (n64 kB)] T 0 _ rfl
  unfold keyV
  go_enter Try.func13, Try.ntmps13
  go_wp2_with fail
  refine (HBEG.out _).mono ?_
  rintro e w1 ⟨rfl, d1⟩
  have hb1 : Below w.heap.size w w1 := der_below (Below.refl _ w) d1
  clear d1 k0 HBEG
  have HB1 := Lib.hid (hb1.alloc hb1.size (.cells #[.int .u64 (n64 (SM.start kA kB).a), .int .u64 (n64 (SM.start kA kB).b), .int .u64 (n64 (SM.start kA kB).c), .int .u64 (n64 (SM.start kA kB).d)] 48))
  have HV1 := Lib.hid (show SAt w1.heap.size (w1.alloc (.cells #[.int .u64 (n64 (SM.start kA kB).a), .int .u64 (n64 (SM.start kA kB).b), .int .u64 (n64 (SM.start kA kB).c), .int .u64 (n64 (SM.start kA kB).d)] 48)) (SM.start kA kB) from heap_alloc_new w1 _)
  have hsz1 := hb1.size
  clear hb1
  go_wp2
  go_loopw [6] (fun rv wr => ∃ (m : List UInt8) (x : SM.V), IsBs B w rv m ∧ m.length ≤ l.length ∧ SM.run l.length x m = SM.run l.length (SM.start kA kB) l ∧ SAt w1.heap.size wr x ∧ w1.heap.size + 1 ≤ wr.heap.size ∧ Below w.heap.size w wr) (fun rv _ => lenOf rv)
  case atStart => exact ⟨l, SM.start kA kB, HI.out, Nat.le_refl _, rfl, HV1.out, by simp, HB1.out⟩
  case round =>
    obtain ⟨m, ⟨va, vb, vc, vd⟩, hm, hml, hrun, hv, hsz, hbw⟩ := hrel
    have HM := Lib.hid hm
    have HR := Lib.hid hrun
    have HV := Lib.hid hv
    clear hrun hv
    obtain ⟨A2, c2, rfl, hm1, hm2, -⟩ := hm.cells
    clear hm
    unfold maxLen at hm2
    obtain ⟨⟨z0, z1, z2, z3⟩, f0, f1, f2, f3⟩ := HV.out.parts
    try simp only at z0 z1 z2 z3
    by_cases h8 : 8 ≤ m.length
    · obtain ⟨b, o, rfl⟩ : ∃ b o, A2 = some ⟨b, o, none⟩ := by
        obtain ⟨A3, c3, e, -, -, hc⟩ := HM.out.cells
        injection e with e1 e2 e3
        obtain ⟨b, o, h, -⟩ := hc 0 (by omega)
        exact ⟨b, o, e1.trans h⟩
      have HF := Lib.hid (HM.out.front h8)
      have HK := Lib.hid (HM.out.back h8)
      have i1 : (8 : Int) ≤ (m.length : Int) := by omega
      have i2 : (8 : Int) ≤ (c2 : Int) := by omega
      have HRN := Lib.hid (show SM.run l.length (SM.absorb ⟨va, vb, vc, vd⟩ (SM.word m 8)) (m.drop 8) = SM.run l.length (SM.start kA kB) l by
        rw [← HR.out, SM.run_next _ _ m (by omega)])
      have HG := Lib.hid (fun W (h : IsBs B W (.slice (some ⟨b, o, none⟩) 8 c2) (m.take 8)) => group_any B _ (m.take 8) W h (by rw [List.length_take]; omega))
      have hl8 : (m.take 8).length = 8 := by rw [List.length_take]; omega
      rw [hl8, word_front m h8] at HG
      clear hl8
      have hlm : (m.drop 8).length = m.length - 8 := List.length_drop
      generalize SM.word m 8 = M at *
      generalize m.take 8 = mf at *
      generalize m.drop 8 = mb at *
      have HA := Lib.hid (fun W => absorb_any ⟨va, vb, vc, vd⟩ M W)
      generalize SM.absorb ⟨va, vb, vc, vd⟩ M = R at *
      unfold vV at HA
      try simp only at HA
      have HFW := Lib.hid (HF.out.keep (hbw.mono hB))
      clear HF
      have HLM := Lib.hid hlm
      clear hlm
      go_wp2_with fail
      go_region_with (first
        | (go_at_call 24
           refine (HA.out _).mono ?_
           rintro e w2 ⟨rfl, d2⟩
           have d3 : Below wr.heap.size wr w2 := by (first | exact d2 | exact below_of_drew d2)
           obtain ⟨⟨y0, y1, y2, y3⟩, g0, g1, g2, g3⟩ := (HV.out.keep d3 (by omega)).parts)
        | (go_at_call 25
           refine (HG.out _ (by (first | exact HFW.out | exact HFW.out.keep (Below.refl _ wr).drew))).mono ?_
           rintro e w2 ⟨rfl, hw⟩
           subst w2))
      all_goals
        have HV5 := Lib.hid ((HV.out.keep d3 (by omega)).put R)
        have HB5 := Lib.hid ((((((hbw.trans (d3.mono hbw.size)).setCell (p := ⟨w1.heap.size, 0, none⟩) hsz1 (.int .u64 (n64 R.a))).setCell (p := ⟨w1.heap.size, 1, none⟩) hsz1 (.int .u64 (n64 R.b))).setCell (p := ⟨w1.heap.size, 2, none⟩) hsz1 (.int .u64 (n64 R.c))).setCell (p := ⟨w1.heap.size, 3, none⟩) hsz1 (.int .u64 (n64 R.d))))
        have hs5 := d3.size
        clear z0 z1 z2 z3 f0 f1 f2 f3 y0 y1 y2 y3 g0 g1 g2 g3 d2 d3 HG HA HFW
        go_wp2
        exact ⟨⟨mb, R, HK.out, by rw [HLM.out]; omega, HRN.out, HV5.out, by simp [World.setCell]; omega, HB5.out⟩, by simp [lenOf]; omega⟩
    · have HRL := Lib.hid (SM.run_last l.length ⟨va, vb, vc, vd⟩ m (by omega))
      have i1 : ¬ (8 : Int) ≤ (m.length : Int) := by omega
      have HG := Lib.hid (fun W (h : IsBs B W (.slice A2 m.length c2) m) => group_any B _ m W h (by omega))
      have HFIN := Lib.hid (show SM.sum kA kB l = SM.fin (SM.absorb ⟨va, vb, vc, vd⟩ (SM.last m l.length)) by
        unfold SM.sum
        rw [← HR.out, HRL.out])
      have hlast := word_top m l.length
      have hwrap : IntKind.u64.wrap (l.length : Int) = (l.length : Int) := by
        simp [IntKind.wrap, IntKind.bits, IntKind.signed]
        omega
      generalize SM.last m l.length = M at *
      generalize SM.word m m.length = M0 at *
      have HA := Lib.hid (fun W => absorb_any ⟨va, vb, vc, vd⟩ M W)
      generalize SM.absorb ⟨va, vb, vc, vd⟩ M = R at *
      have HE := Lib.hid (fun W => finish_any R W)
      unfold vV at HA HE
      try simp only at HA
      have HMW := Lib.hid (HM.out.keep (hbw.mono hB))
      go_wp2_with fail
      refine (HG.out _ HMW.out).mono ?_
      rintro e w2 ⟨rfl, hw⟩
      subst w2
      go_wp2_with fail
      refine (HA.out _).mono ?_
      rintro e w3 ⟨rfl, d3⟩
      go_wp2_with fail
      refine (HE.out _).mono ?_
      rintro e w4 ⟨rfl, d4⟩
      have hb4 := der_same (der_same hbw d3) d4
      go_wp2
      go_ret
      exact ⟨by rw [HFIN.out]; rfl, hb4⟩
end Go.Proofs.Ytlcfpdbiippenaa
