/- The walk of the reference's Apply. -/
import Derived.Test.YtgokinfejbefjaaDoorDistChs
namespace Go.Proofs.YtgokinfejbefjaaDoor
open Go.RowKit
set_option maxRecDepth 100000

theorem conv2 (W : World) (c d : UInt8) (x y : Int) (h : x = (c.toNat : Int)) (h' : y = (d.toNat : Int)) :
    (convert 52 9 (.slice (some ⟨W.heap.size, 0, none⟩) 2 2)).run Tryd.prog (W.alloc (.cells #[.int .u8 x, .int .u8 y] 5)) = .ok (.string ⟨#[c, d]⟩) (W.alloc (.cells #[.int .u8 x, .int .u8 y] 5)) := by
  subst h h'
  refine run_convert_bytes_back (W.alloc (.cells #[.int .u8 (c.toNat : Int), .int .u8 (d.toNat : Int)] 5)) 52 9 5 ⟨W.heap.size, 0, none⟩ 2 [c, d] Tryd.underlying52 Tryd.underlying5 Tryd.underlying9 ?_
  intro j hj
  match j, hj with
  | 0, _ => simp [Addr.add]
  | 1, _ => simp [Addr.add]

theorem IsChs.cells {B : Nat} {w : World} {v : Value} {cs : List DM.Ch} (h : IsChs B w v cs) : ∃ A c, v = .slice A cs.length c ∧ cs.length ≤ c ∧ c ≤ maxLen ∧ (∀ x ∈ cs, chOk x) ∧ ∀ k, ∀ hk : k < cs.length, ∃ b o, A = some ⟨b, o, none⟩ ∧ b < B ∧
    w.cell? ⟨b, o + k * 3, none⟩ = some (.int .i64 cs[k].1) ∧ w.cell? ⟨b, o + k * 3 + 1, none⟩ = some (.int .i64 cs[k].2.1) ∧ w.cell? ⟨b, o + k * 3 + 2, none⟩ = some (.int .i64 cs[k].2.2) := by
  obtain ⟨a, c, hv, h1, h2, h4, h3⟩ := h
  refine ⟨a, c, hv, h1, h2, h4, fun k hk => ?_⟩
  rcases h3 with h3 | ⟨b, o, ha, hlt, hc⟩
  · rw [h3] at hk
    exact absurd hk (Nat.not_lt_zero _)
  · exact ⟨b, o, ha, hlt, hc k _ (List.getElem?_eq_getElem hk)⟩

/-- What Apply returns. -/
def apN (a : ByteArray) (cs : List DM.Ch) : ByteArray × Nat :=
  if 64 < a.size then (⟨#[]⟩, 1) else if DM.ord cs = false then (⟨#[]⟩, 12) else if cs.all (DM.right a.size) = false then (⟨#[]⟩, 2)
  else if 128 < (DM.ap a.data.toList cs).length then (⟨#[]⟩, 1) else (bs (DM.ap a.data.toList cs), 0)
def apV (a : ByteArray) (cs : List DM.Ch) : Value := .tuple #[.string (apN a cs).1, .int .i64 ((apN a cs).2 : Int)]

/-- Where the next change begins, behind k of them. -/
theorem fold_place (a : List UInt8) (cs : List DM.Ch) (h1 : DM.ord cs = true) (h2 : cs.all (DM.right a.length) = true) : ∀ k, k ≤ cs.length →
    (DM.fold a ([], 0) (cs.take k)).2 ≤ a.length ∧ (DM.fold a ([], 0) (cs.take k)).1.length ≤ (DM.fold a ([], 0) (cs.take k)).2 + k ∧ ∀ h : k < cs.length, ((DM.fold a ([], 0) (cs.take k)).2 : Int) ≤ cs[k].2.1 := by
  have hall := List.all_eq_true.1 h2
  intro k
  induction k with
  | zero =>
    intro _
    refine ⟨Nat.zero_le _, Nat.zero_le _, fun h => ?_⟩
    have := DM.right_cases (hall cs[0] (List.getElem_mem h))
    show ((0 : Nat) : Int) ≤ _
    omega
  | succ k ih =>
    intro hk
    obtain ⟨i1, i2, i3⟩ := ih (by omega)
    have hr := hall (cs[k]'(by omega)) (List.getElem_mem _)
    have e : DM.fold a ([], 0) (cs.take (k + 1)) = DM.step a (DM.fold a ([], 0) (cs.take k)) (cs[k]'(by omega)) := by
      rw [List.take_succ_eq_append_getElem (by omega), DM.fold_snoc]
    have hc := DM.step_cost a (DM.fold a ([], 0) (cs.take k)).1 (DM.fold a ([], 0) (cs.take k)).2 _ (cs[k]'(by omega)) (i3 (by omega)) hr (Nat.le_refl _)
    rw [e]
    refine ⟨hc.1, ?_, fun h => hc.2.2 _ ?_⟩
    · have i3 := i3 (by omega)
      generalize DM.fold a ([], 0) (cs.take k) = S at *
      generalize cs[k]'(by omega) = C at *
      obtain ⟨kind, p, y⟩ := C
      simp only at i3
      have hseg : ((a.drop S.2).take (p.toNat - S.2)).length ≤ p.toNat - S.2 := by rw [List.length_take]; omega
      unfold DM.step
      simp only
      split
      · simp only [List.length_append, List.length_cons, List.length_nil]; omega
      · split
        · simp only [List.length_append, List.length_cons, List.length_nil]; omega
        · split
          · simp only [List.length_append]; omega
          · simp only [List.length_append, List.length_cons, List.length_nil]; omega
    · have ho : DM.ord (cs.drop k) = true := by
        have : ∀ j, j ≤ k → DM.ord (cs.drop j) = true := by
          intro j
          induction j with
          | zero => intro _; exact h1
          | succ j ihj =>
            intro hj
            have := ihj (by omega)
            rw [ord_at cs j (by omega), Bool.and_eq_true] at this
            exact this.2
        exact this k (Nat.le_refl _)
      rw [ord_at cs k h, Bool.and_eq_true] at ho
      exact ho.1

set_option maxHeartbeats 4000000 in
theorem rApply_any (B : Nat) (a : ByteArray) (v : Value) (cs : List DM.Ch) (w : World) (ha : a.size ≤ maxLen) (h : IsChs B w v cs) (hB : B ≤ w.heap.size) (hl : cs.length ≤ 1000000) :
    Calls Tryd.prog 21 #[.string a, v] w fun e w' => e = .returned (apV a cs) ∧ Below w.heap.size w w' := by
  have HCH := Lib.hid h
  obtain ⟨A, cap, rfl, h1, h2, hok, hc⟩ := h.cells
  unfold maxLen at h2 ha
  have HC := Lib.hid hc
  have HOK := Lib.hid hok
  clear hc hok h
  by_cases h64 : 64 < a.size
  · have HV := Lib.hid (show apV a cs = .tuple #[.string ⟨#[]⟩, .int .i64 1] by unfold apV apN; rw [if_pos h64]; rfl)
    go_enter Tryd.func21, Tryd.ntmps21
    go_wp2
    go_ret2
    exact ⟨by rw [HV.out]; rfl, Below.refl _ _⟩
  · go_enter Tryd.func21, Tryd.ntmps21
    go_wp2_with fail
    refine (rordered_any B _ cs w HCH.out hB (by omega)).mono ?_
    rintro e w1 ⟨rfl, b1⟩
    have hs1 := b1.size
    cases hord : DM.ord cs
    · have HV := Lib.hid (show apV a cs = .tuple #[.string ⟨#[]⟩, .int .i64 12] by unfold apV apN; rw [if_neg h64, if_pos hord]; rfl)
      clear hord
      go_wp2
      go_ret2
      exact ⟨by rw [HV.out]; rfl, b1⟩
    · go_wp2
      go_loopw [6] (fun i wr => ∃ k : Nat, k ≤ cs.length ∧ i = .int .i64 k ∧ (cs.take k).all (DM.right a.size) = true ∧ Below w.heap.size w wr) (fun i _ => cs.length - (intOf i).toNat)
      case atStart => exact ⟨0, Nat.zero_le _, rfl, rfl, b1⟩
      case round =>
        obtain ⟨k, hk, rfl, hall, hbw⟩ := hrel
        have HALL := Lib.hid hall
        clear hall
        have hsz := hbw.size
        by_cases hlt : k < cs.length
        · obtain ⟨b, o, rfl, hbB, x0, x1, x2⟩ := HC.out k hlt
          have hb' : b < w.heap.size := by omega
          have k0 := (hbw.cell (p := ⟨b, _, none⟩) hb').trans x0
          have k1 := (hbw.cell (p := ⟨b, _, none⟩) hb').trans x1
          have k2 := (hbw.cell (p := ⟨b, _, none⟩) hb').trans x2
          have hr := Lib.hid (fun W => rright_any cs[k] a.size W (HOK.out _ (List.getElem_mem hlt)) (by omega))
          have hnx := Lib.hid (show (cs.take (k + 1)).all (DM.right a.size) = DM.right a.size cs[k] by
            rw [List.take_succ_eq_append_getElem hlt, List.all_append, HALL.out]; simp)
          have hbad := Lib.hid (show DM.right a.size cs[k] = false → cs.all (DM.right a.size) = false from fun hf => by
            cases hx : cs.all (DM.right a.size)
            · rfl
            · rw [List.all_eq_true.1 hx cs[k] (List.getElem_mem hlt)] at hf
              cases hf)
          unfold chV at hr
          clear x0 x1 x2
          generalize hP : cs[k] = P at *
          obtain ⟨pk, pp, py⟩ := P
          simp only at k0 k1 k2
          have i1 : (k : Int) < (cs.length : Int) := by omega
          generalize DM.right a.size (pk, pp, py) = R at *
          clear hP
          go_wp2_with fail
          refine (hr.out _).mono ?_
          rintro e w2 ⟨rfl, b2⟩
          have hbw2 := hbw.trans (b2.mono hsz)
          cases R
          · have HV := Lib.hid (show apV a cs = .tuple #[.string ⟨#[]⟩, .int .i64 2] by unfold apV apN; rw [if_neg h64, if_neg (by rw [hord]; decide), if_pos (hbad.out rfl)]; rfl)
            go_wp2
            go_ret2
            exact ⟨by rw [HV.out]; rfl, hbw2⟩
          · go_wp2
            exact ⟨⟨k + 1, by omega, by go_num, hnx.out, hbw2⟩, by simp [intOf]; omega⟩
        · obtain rfl : k = cs.length := by omega
          have hall := HALL.out
          rw [List.take_length] at hall
          have hal : a.data.toList.length = a.size := size_list a
          have HP := Lib.hid (fold_place a.data.toList cs hord (by rw [hal]; exact hall))
          have HALLc := Lib.hid hall
          have HV := Lib.hid (show apN a cs = if 128 < (DM.ap a.data.toList cs).length then (⟨#[]⟩, 1) else (bs (DM.ap a.data.toList cs), 0) by
            unfold apN; rw [if_neg h64, if_neg (by rw [hord]; decide), if_neg (by rw [hall]; decide)])
          clear hall HALL hk
          go_wp2
          go_loopw [7, 8, 9] (fun ov mv i wz => ∃ (k : Nat) (so : ByteArray) (m : Nat), k ≤ cs.length ∧ i = .int .i64 k ∧ ov = .string so ∧ mv = .int .i64 m ∧ DM.fold a.data.toList ([], 0) (cs.take k) = (so.data.toList, m) ∧ Below w.heap.size w wz) (fun _ _ i _ => cs.length - (intOf i).toNat)
          case atStart => exact ⟨0, ⟨#[]⟩, 0, Nat.zero_le _, rfl, rfl, rfl, rfl, hbw⟩
          case round =>
            obtain ⟨k, so, m, hk, rfl, rfl, rfl, hf, hbz⟩ := hrel
            obtain ⟨hp1, hp2, hp3⟩ := HP.out k hk
            rw [hf] at hp1 hp2 hp3
            simp only [size_list] at hp1 hp2
            have HF := Lib.hid hf
            clear hf
            have hszz := hbz.size
            by_cases hlt : k < cs.length
            · have hp3 := hp3 hlt
              have hr := List.all_eq_true.1 HALLc.out cs[k] (List.getElem_mem hlt)
              have HS := Lib.hid (show DM.fold a.data.toList ([], 0) (cs.take (k + 1)) = DM.step a.data.toList (so.data.toList, m) cs[k] by
                rw [List.take_succ_eq_append_getElem hlt, DM.fold_snoc, HF.out])
              obtain ⟨b, o, rfl, hbB, x0, x1, x2⟩ := HC.out k hlt
              have hb' : b < w.heap.size := by omega
              have k0 := (hbz.cell (p := ⟨b, _, none⟩) hb').trans x0
              have k1 := (hbz.cell (p := ⟨b, _, none⟩) hb').trans x1
              have k2 := (hbz.cell (p := ⟨b, _, none⟩) hb').trans x2
              have i1 : (k : Int) < (cs.length : Int) := by omega
              clear x0 x1 x2
              generalize cs[k] = P at *
              obtain ⟨pk, pp, py⟩ := P
              simp only at k0 k1 k2 hp3
              obtain ⟨p, rfl⟩ : ∃ p : Nat, pp = (p : Int) := ⟨pp.toNat, by have := DM.right_cases hr; simp only at this; omega⟩
              have hmp : m ≤ p := by omega
              have hseg := Lib.hid (Lib.extract_data a m p)
              have hpa : p ≤ a.size := by have := DM.right_cases hr; simp only at this; omega
              have ez : (a.extract m p).size = p - m := by simp; omega
              have j1 : (m : Int) ≤ (p : Int) := by omega
              have j2 : (p : Int) ≤ (a.size : Int) := by omega
              have j3 : (0 : Int) ≤ (m : Int) := by omega
              have q1 : ¬ (9223372036854775807 < so.size + (a.extract m p).size) := by omega
              rcases DM.right_cases hr with ⟨hk1, g1, g2, g3, g4⟩ | ⟨hk1, g1, g2, g3, g4⟩ | ⟨hk1, g1, g2, g3⟩ | ⟨hk1, g1, g2, g3⟩
              · simp only at hk1 g1 g2 g3 g4
                subst hk1
                have v1 : ∀ W : World, _ := fun W => conv1 W (UInt8.ofNat py.toNat) py (by rw [UInt8.toNat_ofNat']; omega)
                go_wp2
                refine ⟨⟨k + 1, _, p, by omega, by go_num, rfl, rfl, ?_, hbz.alloc hszz _⟩, by simp [intOf]; omega⟩
                rw [HS.out, data_add, data_add, hseg.out]
                simp [DM.step]
              · simp only at hk1 g1 g2 g3 g4
                subst hk1
                have v1 : ∀ W : World, _ := fun W => conv1 W (UInt8.ofNat py.toNat) py (by rw [UInt8.toNat_ofNat']; omega)
                go_wp2
                refine ⟨⟨k + 1, _, p + 1, by omega, by go_num, rfl, by go_num, ?_, hbz.alloc hszz _⟩, by simp [intOf]; omega⟩
                rw [HS.out, data_add, data_add, hseg.out]
                simp [DM.step]
              · simp only at hk1 g1 g2 g3
                subst hk1
                go_wp2
                refine ⟨⟨k + 1, _, p + 1, by omega, by go_num, rfl, by go_num, ?_, hbz⟩, by simp [intOf]; omega⟩
                rw [HS.out, data_add, hseg.out]
                simp [DM.step]
              · simp only at hk1 g1 g2 g3
                subst hk1
                have hp1' : p + 1 < a.size := by omega
                have v1 : ∀ W : World, _ := fun W => conv2 W a[p + 1] a[p] (a[p + 1].toNat : Int) (a[p].toNat : Int) rfl rfl
                have u1 : (p : Int) + 1 < (a.size : Int) := by omega
                have u2 : (p : Int) < (a.size : Int) := by omega
                have u3 : (0 : Int) ≤ (p : Int) + 1 := by omega
                have hfin := Lib.hid (show DM.fold a.data.toList ([], 0) (cs.take (k + 1)) = ((so ++ a.extract m p ++ ⟨#[a[p + 1], a[p]]⟩ : ByteArray).data.toList, p + 2) by
                  rw [HS.out, data_add, data_add, hseg.out]
                  simp only [DM.step]
                  rw [DM.getD_is _ _ (by rw [hal]; simpa using hp1'), DM.getD_is _ _ (by rw [hal]; simp; omega)]
                  simp
                  exact ⟨rfl, rfl⟩)
                have q2 : (so ++ a.extract m p).size ≤ 2000000 := by rw [size_add]; omega
                go_wp2_with fail
                generalize so ++ a.extract m p = T at *
                have q3 : ¬ (9223372036854775807 < T.size + 2) := by omega
                have v2 : ∀ W : World, (convert 52 9 (.slice (some ⟨W.heap.size, 0, none⟩) 2 2)).run Tryd.prog (W.alloc (.cells #[.int .u8 (a[p + 1].toNat : Int), .int .u8 (a[p].toNat : Int)] 5)).drew = .ok (.string ⟨#[a[p + 1], a[p]]⟩) (W.alloc (.cells #[.int .u8 (a[p + 1].toNat : Int), .int .u8 (a[p].toNat : Int)] 5)).drew := fun W => v1 W.drew
                go_region
                all_goals
                  go_wp2
                  exact ⟨⟨k + 1, _, p + 2, by omega, by go_num, rfl, by go_num, hfin.out, below_drewN (hbz.alloc hszz _) 1⟩, by simp [intOf]; omega⟩
            · obtain rfl : k = cs.length := by omega
              have hff := HF.out
              rw [List.take_length] at hff
              have hap := Lib.hid (show DM.ap a.data.toList cs = (so ++ a.extract m a.size).data.toList by
                unfold DM.ap
                rw [hff, data_add, extract_list])
              have j1 : (m : Int) ≤ (a.size : Int) := by omega
              have ez : (a.extract m a.size).size = a.size - m := by simp
              have hzs := Lib.hid (show (so ++ a.extract m a.size).size = so.size + (a.size - m) by rw [size_add, ez])
              clear hff hp3
              by_cases h128 : 128 < so.size + (a.size - m)
              · have HVV := Lib.hid (show apN a cs = (⟨#[]⟩, 1) by rw [HV.out, hap.out, size_list, hzs.out, if_pos h128])
                have t1 : (128 : Int) < (so.size : Int) + ((a.size - m : Nat) : Int) := by omega
                go_wp2
                go_ret2
                exact ⟨by unfold apV; rw [HVV.out]; rfl, hbz⟩
              · have HVV := Lib.hid (show apN a cs = (so ++ a.extract m a.size, 0) by rw [HV.out, hap.out, size_list, hzs.out, if_neg h128, bs_list])
                have t1 : ¬ (128 : Int) < (so.size : Int) + ((a.size - m : Nat) : Int) := by omega
                go_wp2
                go_ret2
                exact ⟨by unfold apV; rw [HVV.out]; rfl, hbz⟩
end Go.Proofs.YtgokinfejbefjaaDoor
