/- Walks of the program's Apply and Proves. -/
import Derived.Test.YtgokinfejbefjaaDoorDistCarry
namespace Go.Proofs.YtgokinfejbefjaaDoor
open Go.RowKit
set_option maxRecDepth 100000

set_option maxHeartbeats 4000000 in
theorem Apply_any (B : Nat) (a : ByteArray) (v : Value) (cs : List DM.Ch) (w : World) (ha : a.size ≤ maxLen) (h : IsChs B w v cs) (hB : B ≤ w.heap.size) (hl : cs.length ≤ 1000000) :
    Calls Tryd.prog 20 #[.string a, v] w fun e w' => e = .returned (apV a cs) ∧ Below w.heap.size w w' := by
  have HCH := Lib.hid h
  obtain ⟨A, cap, rfl, h1, h2, hok, hc⟩ := h.cells
  unfold maxLen at h2 ha
  have HC := Lib.hid hc
  have HOK := Lib.hid hok
  clear hc hok h
  by_cases h64 : 64 < a.size
  · have HV := Lib.hid (show apV a cs = .tuple #[.string ⟨#[]⟩, .int .i64 1] by unfold apV apN; rw [if_pos h64]; rfl)
    go_enter Tryd.func20, Tryd.ntmps20
    go_wp2
    go_ret2
    exact ⟨by rw [HV.out]; rfl, Below.refl _ _⟩
  · go_enter Tryd.func20, Tryd.ntmps20
    go_wp2_with fail
    refine (ordered_any B _ cs w HCH.out hB (by omega)).mono ?_
    rintro e w1 ⟨rfl, b1⟩
    have hs1 := b1.size
    cases hord : DM.ord cs
    · have HV := Lib.hid (show apV a cs = .tuple #[.string ⟨#[]⟩, .int .i64 12] by unfold apV apN; rw [if_neg h64, if_pos hord]; rfl)
      clear hord
      go_wp2
      go_ret2
      exact ⟨by rw [HV.out]; rfl, b1⟩
    · go_wp2
      go_loopw [17] (fun i wr => ∃ k : Nat, k ≤ cs.length ∧ i = .int .i64 k ∧ (cs.take k).all (DM.right a.size) = true ∧ Below w.heap.size w wr) (fun i _ => cs.length - (intOf i).toNat)
      case atStart => exact ⟨0, Nat.zero_le _, rfl, rfl, b1⟩
      case round =>
        obtain ⟨k, hk, rfl, hall, hbw⟩ := hrel
        have HALL := Lib.hid hall
        clear hall
        have hsz := hbw.size
        by_cases hlt : k < cs.length
        · obtain ⟨b, o, rfl, hbB, x0, x1, x2⟩ := HC.out k hlt
          have hb' : b < w.heap.size := by omega
          have k0 := (hbw.cell (p := ⟨b, _, none⟩) hb').trans x0
          have k1 := (hbw.cell (p := ⟨b, _, none⟩) hb').trans x1
          have k2 := (hbw.cell (p := ⟨b, _, none⟩) hb').trans x2
          have hr := Lib.hid (fun W => isChange_any cs[k] a.size W (HOK.out _ (List.getElem_mem hlt)) (by omega))
          have hnx := Lib.hid (show (cs.take (k + 1)).all (DM.right a.size) = DM.right a.size cs[k] by
            rw [List.take_succ_eq_append_getElem hlt, List.all_append, HALL.out]; simp)
          have hbad := Lib.hid (show DM.right a.size cs[k] = false → cs.all (DM.right a.size) = false from fun hf => by
            cases hx : cs.all (DM.right a.size)
            · rfl
            · rw [List.all_eq_true.1 hx cs[k] (List.getElem_mem hlt)] at hf
              cases hf)
          unfold chV at hr
          clear x0 x1 x2
          generalize hP : cs[k] = P at *
          obtain ⟨pk, pp, py⟩ := P
          simp only at k0 k1 k2
          have i1 : (k : Int) < (cs.length : Int) := by omega
          generalize DM.right a.size (pk, pp, py) = R at *
          clear hP
          go_wp2_with fail
          refine (hr.out _).mono ?_
          rintro e w2 ⟨rfl, b2⟩
          have hbw2 := hbw.trans (((Below.refl _ wr).alloc hsz _).trans (b2.mono (by simp; omega)))
          cases R
          · have HV := Lib.hid (show apV a cs = .tuple #[.string ⟨#[]⟩, .int .i64 2] by unfold apV apN; rw [if_neg h64, if_neg (by rw [hord]; decide), if_pos (hbad.out rfl)]; rfl)
            go_wp2
            go_ret2
            exact ⟨by rw [HV.out]; rfl, hbw2⟩
          · go_wp2
            exact ⟨⟨k + 1, by omega, by go_num, hnx.out, hbw2⟩, by simp [intOf]; omega⟩
        · obtain rfl : k = cs.length := by omega
          have hall := HALL.out
          rw [List.take_length] at hall
          have HV := Lib.hid (show apN a cs = if 128 < (DM.ap a.data.toList cs).length then (⟨#[]⟩, 1) else (bs (DM.ap a.data.toList cs), 0) by
            unfold apN; rw [if_neg h64, if_neg (by rw [hord]; decide), if_neg (by rw [hall]; decide)])
          have HCO := Lib.hid (fun W (hW : Below w.heap.size w W) => carryOut_any B a _ cs W (by omega) (HCH.out.keep (hW.mono hB)) (Nat.le_trans hB hW.size) hl hord hall)
          have hZ := Lib.hid (show (bs (DM.ap a.data.toList cs)).size = (DM.ap a.data.toList cs).length from rfl)
          generalize DM.ap a.data.toList cs = Z at *
          clear hall HALL hk hord
          go_wp2_with fail
          refine (HCO.out _ hbw).mono ?_
          rintro e w3 ⟨rfl, b3⟩
          have hbw3 := hbw.trans (b3.mono hbw.size)
          by_cases h128 : 128 < Z.length
          · have HVV := Lib.hid (show apN a cs = (⟨#[]⟩, 1) by rw [HV.out, if_pos h128])
            have t1 : (128 : Int) < ((bs Z).size : Int) := by rw [hZ.out]; omega
            go_wp2
            go_ret2
            exact ⟨by unfold apV; rw [HVV.out]; rfl, hbw3⟩
          · have HVV := Lib.hid (show apN a cs = (bs Z, 0) by rw [HV.out, if_neg h128])
            have t1 : ¬ (128 : Int) < ((bs Z).size : Int) := by rw [hZ.out]; omega
            go_wp2
            go_ret2
            exact ⟨by unfold apV; rw [HVV.out]; rfl, hbw3⟩

set_option maxHeartbeats 1000000 in
theorem Proves_any (B : Nat) (a b : ByteArray) (v : Value) (cs : List DM.Ch) (w : World) (ha : a.size ≤ maxLen) (h : IsChs B w v cs) (hB : B ≤ w.heap.size) (hl : cs.length ≤ 1000000) :
    Calls Tryd.prog 22 #[.string a, .string b, v] w fun e w' => e = .returned (.bool (prB a b cs)) ∧ Below w.heap.size w w' := by
  have hA := Lib.hid (Apply_any B a v cs w ha h hB hl)
  obtain ⟨ad, cap, rfl, -⟩ := h
  have HP := Lib.hid (show prB a b cs = (decide ((apN a cs).2 = 0) && (apN a cs).1.toList == b.toList) from rfl)
  unfold apV at hA
  generalize apN a cs = R at *
  obtain ⟨S, E⟩ := R
  simp only at hA HP
  go_enter Tryd.func22, Tryd.ntmps22
  go_wp2_with fail
  refine hA.out.mono ?_
  rintro e w1 ⟨rfl, b1⟩
  by_cases hE : E = 0
  · subst hE
    go_wp2
    go_ret
    exact ⟨ret_bool (by rw [HP.out]; simp), b1⟩
  · have t1 : ((E : Int) == 0) = false := by simp; omega
    have HE := Lib.hid hE
    clear hE
    go_wp2
    go_ret
    exact ⟨ret_bool (by rw [HP.out]; simp [HE.out]), b1⟩

end Go.Proofs.YtgokinfejbefjaaDoor
