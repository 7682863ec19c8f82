/- The walk of the program's Script. -/
import Derived.Test.YtgokinfejbefjaaDoorDistTaken
namespace Go.Proofs.YtgokinfejbefjaaDoor
open Go.RowKit
set_option linter.unusedVariables false
set_option maxRecDepth 100000

set_option maxHeartbeats 8000000 in
theorem Script_any (a b : ByteArray) (w : World) (hE : SEnv w) (ha : a.size ≤ maxLen) (hb : b.size ≤ maxLen) :
    Calls Tryd.prog 15 #[.string a, .string b] w fun e w' => ∃ v, e = .returned (.tuple #[v, .int .i64 ((scN a b).2 : Int)]) ∧ IsChs w'.heap.size w' v (scN a b).1 ∧ Below w.heap.size w w' := by
  unfold maxLen at ha hb
  by_cases h : 64 < a.size ∨ 64 < b.size
  · have hv : scN a b = ([], 1) := by unfold scN; rw [if_pos h]
    rw [hv]
    have hnil : ∀ W : World, IsChs W.heap.size W (.slice none 0 0) [] := fun W => ⟨none, 0, rfl, Nat.le_refl _, Nat.zero_le _, by simp, .inl rfl⟩
    have HN := Lib.hid hnil
    clear hv hnil
    go_enter Tryd.func15, Tryd.ntmps15
    by_cases h1 : 64 < a.size
    · go_wp2
      go_ret2
      exact ⟨_, rfl, HN.out _, Below.refl _ _⟩
    · have h2 : 64 < b.size := h.resolve_left h1
      go_wp2
      go_ret2
      exact ⟨_, rfl, HN.out _, Below.refl _ _⟩
  · have h1 : a.size ≤ 64 := by omega
    have h2 : b.size ≤ 64 := by omega
    have hv : scN a b = (scrN a b a.size b.size, 0) := by unfold scN; rw [if_neg h]
    rw [hv]
    have HOK := Lib.hid (scrN_ok a b h1)
    have HLEN := Lib.hid (show (scrN a b a.size b.size).length ≤ 64 by rw [scrN_len]; have := distB_max a b; omega)
    obtain ⟨F, hF⟩ : ∃ F, F = scrN a b a.size b.size := ⟨_, rfl⟩
    rw [← hF] at HOK HLEN ⊢
    have HF := Lib.hid hF
    have HE := Lib.hid hE
    clear hv h hF hE
    go_enter Tryd.func15, Tryd.ntmps15
    go_wp2_with fail
    refine (compare_any a b w HE.out h1 h2).mono ?_
    rintro e wt ⟨T, rfl, hK, hbt⟩
    have HK := Lib.hid hK
    have hEt := Lib.hid (HE.out.below hbt (Nat.le_refl _))
    have HB0 := Lib.hid (Below.refl (wt.heap.size + 1) (wt.alloc (cmpObj a b T)))
    have hst := hbt.size
    clear hK
    unfold cmpV
    go_wp2
    go_loopw [7, 8, 9] (fun lv iv kv wr => ∃ (i k : Nat) (L : List DM.Ch), i ≤ a.size ∧ k ≤ b.size ∧ iv = .int .i64 i ∧ kv = .int .i64 k ∧ OwnsCh (wt.heap.size + 1) wr lv L ∧ scrN a b i k ++ L.reverse = F ∧ Below (wt.heap.size + 1) (wt.alloc (cmpObj a b T)) wr) (fun _ iv kv _ => (intOf iv).toNat + (intOf kv).toNat)
    case atStart => exact ⟨a.size, b.size, [], Nat.le_refl _, Nat.le_refl _, rfl, rfl, World.ownsRow_nil _ _ _ _, by rw [List.reverse_nil, List.append_nil]; exact HF.out.symm, HB0.out⟩
    case round =>
      obtain ⟨i, k, L, hi, hk, rfl, rfl, hown, hcs, hbw⟩ := hrel
      have HOWN := Lib.hid hown
      have HCS := Lib.hid hcs
      clear hown hcs
      have hsz := hbw.size
      simp only [World.size_alloc] at hsz
      have hlen : L.length ≤ 64 := by have := congrArg List.length HCS.out; rw [List.length_append, List.length_reverse] at this; have := HLEN.out; omega
      have hbw0 : Below w.heap.size w wr := hbt.trans ((((Below.refl _ wt).alloc (Nat.le_refl _) (cmpObj a b T)).trans (hbw.mono (Nat.le_succ _))).mono hst)
      have hbwt : Below wt.heap.size wt wr := ((Below.refl _ wt).alloc (Nat.le_refl _) (cmpObj a b T)).trans (hbw.mono (Nat.le_succ _))
      by_cases h0 : i = 0 ∧ k = 0
      · obtain ⟨rfl, rfl⟩ := h0
        have hcF : L.reverse = F := by have := HCS.out; rwa [scrN_zero, List.nil_append] at this
        go_wp2_with fail
        refine (Reverse_any (wt.heap.size + 1) _ L wr HOWN.out (by omega)).mono ?_
        rintro e w3 ⟨⟨u, rfl⟩, hown3, hb3⟩
        rw [hcF] at hown3
        have HO3 := Lib.hid hown3
        clear hown3
        go_wp2
        go_ret2
        exact ⟨_, rfl, HO3.out.is HOK.out, hbw0.trans (hb3.mono (by omega))⟩
      · obtain ⟨s, hT⟩ := taken_any a b i k hi hk h0
        have HT := Lib.hid hT
        have hs5 := hT.lt
        have hold := hT.old
        have hnew := hT.new
        have c0 : wr.cell? ⟨wt.heap.size, 0, none⟩ = some (.string a) := (hbw.cell (p := ⟨wt.heap.size, 0, none⟩) (Nat.lt_succ_self _)).trans (new_cell wt _ _ 0 _ rfl)
        have c1 : wr.cell? ⟨wt.heap.size, 1, none⟩ = some (.string b) := (hbw.cell (p := ⟨wt.heap.size, 1, none⟩) (Nat.lt_succ_self _)).trans (new_cell wt _ _ 1 _ rfl)
        have c2 : wr.cell? ⟨wt.heap.size, 2, none⟩ = some (.slice (some ⟨T, 0, none⟩) (a.size + 1) (a.size + 1)) := (hbw.cell (p := ⟨wt.heap.size, 2, none⟩) (Nat.lt_succ_self _)).trans (new_cell wt _ _ 2 _ rfl)
        have HLAST := Lib.hid (last_any a b T i k s wr (hEt.out.below hbwt (Nat.le_refl _)) h1 h2 hi hk (fun i' j' hi' hj' => (HK.out i' j' (by omega) (by omega)).below hbwt) hT.lt hT.yes hT.no)
        unfold cmpV at HLAST
        clear hT h0
        obtain rfl | rfl | rfl | rfl | rfl : s = 0 ∨ s = 1 ∨ s = 2 ∨ s = 3 ∨ s = 4 := by omega
        · obtain ⟨i, rfl⟩ : ∃ i', i = i' + 1 := ⟨i - 1, by simp only [oldN] at hold; omega⟩
          obtain ⟨k, rfl⟩ : ∃ k', k = k' + 1 := ⟨k - 1, by simp only [newN] at hnew; omega⟩
          have hl := HLAST.out
          unfold stepV at hl
          have HL := Lib.hid hl
          clear hl HLAST hold hnew
          have hscr := Lib.hid (show scrN a b (i + 1) (k + 1) = scrN a b i k from HT.out.scr.trans (List.append_nil _))
          have j1 : (0 : Int) < (i : Int) + 1 := by omega
          have w1 : IntKind.i64.wrap (i : Int) = (i : Int) := wrap_num _ (by omega) (by omega)
          have w2 : IntKind.i64.wrap (k : Int) = (k : Int) := wrap_num _ (by omega) (by omega)
          clear HT
          go_wp2_with fail
          refine HL.out.mono ?_
          rintro e w2 ⟨rfl, hb2⟩
          have hs2 := hb2.size
          have d0 := fun u : Obj => cell_one (u := u) ((hb2.cell (p := ⟨wt.heap.size, 0, none⟩) (by show wt.heap.size < wr.heap.size; omega)).trans c0)
          have d1 := fun u : Obj => cell_one (u := u) ((hb2.cell (p := ⟨wt.heap.size, 1, none⟩) (by show wt.heap.size < wr.heap.size; omega)).trans c1)
          have d2 := fun u : Obj => cell_one (u := u) ((hb2.cell (p := ⟨wt.heap.size, 2, none⟩) (by show wt.heap.size < wr.heap.size; omega)).trans c2)
          have HBZ := Lib.hid (fun (u : Obj) (q : Nat) => below_drewN (hb2.alloc hs2 u) q)
          go_wp2_with fail
          go_quiet (fail)
          go_wp2
          exact ⟨⟨i, k, L, by omega, by omega, rfl, rfl, HOWN.out.keep (HBZ.out _ _), by rw [← hscr.out]; exact HCS.out, hbw.trans ((HBZ.out _ _).mono hsz)⟩, by simp [intOf]; omega⟩
        · obtain ⟨i, rfl⟩ : ∃ i', i = i' + 1 := ⟨i - 1, by simp only [oldN] at hold; omega⟩
          obtain ⟨k, rfl⟩ : ∃ k', k = k' + 1 := ⟨k - 1, by simp only [newN] at hnew; omega⟩
          have hl := HLAST.out
          unfold stepV at hl
          have HL := Lib.hid hl
          clear hl HLAST hold hnew
          have hscr := Lib.hid (show scrN a b (i + 1) (k + 1) = scrN a b i k ++ [chOf b 1 i k] from HT.out.scr)
          have HCH := Lib.hid (fun W => change_any a b T i k 1 W (by decide) (by decide) (fun _ => by omega))
          unfold cmpV stepV chV at HCH
          generalize chOf b 1 i k = C at HCH hscr
          obtain ⟨ck, cp, cy⟩ := C
          simp only at HCH
          have j1 : (0 : Int) < (i : Int) + 1 := by omega
          have w1 : IntKind.i64.wrap (i : Int) = (i : Int) := wrap_num _ (by omega) (by omega)
          have w2 : IntKind.i64.wrap (k : Int) = (k : Int) := wrap_num _ (by omega) (by omega)
          clear HT
          go_wp2_with fail
          refine HL.out.mono ?_
          rintro e w2 ⟨rfl, hb2⟩
          have hs2 := hb2.size
          have d0 := fun u : Obj => cell_one (u := u) ((hb2.cell (p := ⟨wt.heap.size, 0, none⟩) (by show wt.heap.size < wr.heap.size; omega)).trans c0)
          have d1 := fun u : Obj => cell_one (u := u) ((hb2.cell (p := ⟨wt.heap.size, 1, none⟩) (by show wt.heap.size < wr.heap.size; omega)).trans c1)
          have d2 := fun u : Obj => cell_one (u := u) ((hb2.cell (p := ⟨wt.heap.size, 2, none⟩) (by show wt.heap.size < wr.heap.size; omega)).trans c2)
          have HBZ := Lib.hid (fun (u : Obj) (q : Nat) => below_drewN (hb2.alloc hs2 u) q)
          go_wp2_with fail
          go_quiet (fail)
          go_wp2_with fail
          refine (HCH.out _).mono ?_
          rintro e w3 ⟨rfl, hb3⟩
          have hb4 : Below wr.heap.size wr w3 := (HBZ.out _ _).trans (hb3.mono (by simp; omega))
          have hs4 : wr.heap.size ≤ w3.heap.size := hb4.size
          have HB4 := Lib.hid hb4
          clear hb3 hb4 d0 d1 d2
          go_wp2_with (at_builtin; refine wpList_append_back rfl (.tmp 47) (.tmp 53) rfl (wt.heap.size + 1) ?_ (ck, cp, cy) u7 L ?_ ?_ ?_ (by omega) ?_)
          · omega
          · simp [Act.eval]
          · exact HOWN.out.keep HB4.out
          · simp [Act.eval]
          · intro v' w5 hown5 hb5
            have HO := Lib.hid hown5
            have HB := Lib.hid hb5
            clear hown5 hb5
            go_wp2
            exact ⟨⟨i, k, L ++ [(ck, cp, cy)], by omega, by omega, rfl, rfl, HO.out, by rw [List.reverse_append]; have := HCS.out; rw [hscr.out, List.append_assoc] at this; exact this, (hbw.trans (HB4.out.mono hsz)).trans HB.out⟩, by simp [intOf] <;> omega⟩
        · obtain ⟨i, rfl⟩ : ∃ i', i = i' + 1 := ⟨i - 1, by simp only [oldN] at hold; omega⟩
          have hl := HLAST.out
          unfold stepV at hl
          have HL := Lib.hid hl
          clear hl HLAST hold hnew
          have hscr := Lib.hid (show scrN a b (i + 1) k = scrN a b i k ++ [chOf b 2 i k] from HT.out.scr)
          have HCH := Lib.hid (fun W => change_any a b T i k 2 W (by decide) (by decide) (fun _ => by omega))
          unfold cmpV stepV chV at HCH
          generalize chOf b 2 i k = C at HCH hscr
          obtain ⟨ck, cp, cy⟩ := C
          simp only at HCH
          have j1 : (0 : Int) < (i : Int) + 1 := by omega
          have w1 : IntKind.i64.wrap (i : Int) = (i : Int) := wrap_num _ (by omega) (by omega)
          have w2 : IntKind.i64.wrap (k : Int) = (k : Int) := wrap_num _ (by omega) (by omega)
          clear HT
          go_wp2_with fail
          refine HL.out.mono ?_
          rintro e w2 ⟨rfl, hb2⟩
          have hs2 := hb2.size
          have d0 := fun u : Obj => cell_one (u := u) ((hb2.cell (p := ⟨wt.heap.size, 0, none⟩) (by show wt.heap.size < wr.heap.size; omega)).trans c0)
          have d1 := fun u : Obj => cell_one (u := u) ((hb2.cell (p := ⟨wt.heap.size, 1, none⟩) (by show wt.heap.size < wr.heap.size; omega)).trans c1)
          have d2 := fun u : Obj => cell_one (u := u) ((hb2.cell (p := ⟨wt.heap.size, 2, none⟩) (by show wt.heap.size < wr.heap.size; omega)).trans c2)
          have HBZ := Lib.hid (fun (u : Obj) (q : Nat) => below_drewN (hb2.alloc hs2 u) q)
          go_wp2_with fail
          go_quiet (fail)
          go_wp2_with fail
          refine (HCH.out _).mono ?_
          rintro e w3 ⟨rfl, hb3⟩
          have hb4 : Below wr.heap.size wr w3 := (HBZ.out _ _).trans (hb3.mono (by simp; omega))
          have hs4 : wr.heap.size ≤ w3.heap.size := hb4.size
          have HB4 := Lib.hid hb4
          clear hb3 hb4 d0 d1 d2
          go_wp2_with (at_builtin; refine wpList_append_back rfl (.tmp 47) (.tmp 53) rfl (wt.heap.size + 1) ?_ (ck, cp, cy) u7 L ?_ ?_ ?_ (by omega) ?_)
          · omega
          · simp [Act.eval]
          · exact HOWN.out.keep HB4.out
          · simp [Act.eval]
          · intro v' w5 hown5 hb5
            have HO := Lib.hid hown5
            have HB := Lib.hid hb5
            clear hown5 hb5
            go_wp2
            exact ⟨⟨i, k, L ++ [(ck, cp, cy)], by omega, by omega, rfl, rfl, HO.out, by rw [List.reverse_append]; have := HCS.out; rw [hscr.out, List.append_assoc] at this; exact this, (hbw.trans (HB4.out.mono hsz)).trans HB.out⟩, by simp [intOf] <;> omega⟩
        · obtain ⟨k, rfl⟩ : ∃ k', k = k' + 1 := ⟨k - 1, by simp only [newN] at hnew; omega⟩
          by_cases hi0 : i = 0
          · subst hi0
            have hl := HLAST.out
            unfold stepV at hl
            have HL := Lib.hid hl
            clear hl HLAST hold hnew
            have hscr := Lib.hid (show scrN a b 0 (k + 1) = scrN a b 0 k ++ [chOf b 3 0 k] from HT.out.scr)
            have HCH := Lib.hid (fun W => change_any a b T 0 k 3 W (by decide) (by decide) (fun _ => by omega))
            unfold cmpV stepV chV at HCH
            generalize chOf b 3 0 k = C at HCH hscr
            obtain ⟨ck, cp, cy⟩ := C
            simp only at HCH
            have j1 : (0 : Int) < (k : Int) + 1 := by omega
            have w2 : IntKind.i64.wrap (k : Int) = (k : Int) := wrap_num _ (by omega) (by omega)
            clear HT
            go_wp2_with fail
            refine HL.out.mono ?_
            rintro e w2 ⟨rfl, hb2⟩
            have hs2 := hb2.size
            have d0 := fun u : Obj => cell_one (u := u) ((hb2.cell (p := ⟨wt.heap.size, 0, none⟩) (by show wt.heap.size < wr.heap.size; omega)).trans c0)
            have d1 := fun u : Obj => cell_one (u := u) ((hb2.cell (p := ⟨wt.heap.size, 1, none⟩) (by show wt.heap.size < wr.heap.size; omega)).trans c1)
            have d2 := fun u : Obj => cell_one (u := u) ((hb2.cell (p := ⟨wt.heap.size, 2, none⟩) (by show wt.heap.size < wr.heap.size; omega)).trans c2)
            have HBZ := Lib.hid (fun (u : Obj) (q : Nat) => below_drewN (hb2.alloc hs2 u) q)
            go_wp2_with fail
            go_quiet (fail)
            go_wp2_with fail
            refine (HCH.out _).mono ?_
            rintro e w3 ⟨rfl, hb3⟩
            have hb4 : Below wr.heap.size wr w3 := (HBZ.out _ _).trans (hb3.mono (by simp; omega))
            have hs4 : wr.heap.size ≤ w3.heap.size := hb4.size
            have HB4 := Lib.hid hb4
            clear hb3 hb4 d0 d1 d2
            go_wp2_with (at_builtin; refine wpList_append_back rfl (.tmp 47) (.tmp 53) rfl (wt.heap.size + 1) ?_ (ck, cp, cy) u7 L ?_ ?_ ?_ (by omega) ?_)
            · omega
            · simp [Act.eval]
            · exact HOWN.out.keep HB4.out
            · simp [Act.eval]
            · intro v' w5 hown5 hb5
              have HO := Lib.hid hown5
              have HB := Lib.hid hb5
              clear hown5 hb5
              go_wp2
              exact ⟨⟨0, k, L ++ [(ck, cp, cy)], by omega, by omega, rfl, rfl, HO.out, by rw [List.reverse_append]; have := HCS.out; rw [hscr.out, List.append_assoc] at this; exact this, (hbw.trans (HB4.out.mono hsz)).trans HB.out⟩, by simp [intOf] <;> omega⟩
          · obtain ⟨i, rfl⟩ : ∃ i', i = i' + 1 := ⟨i - 1, by omega⟩
            have hl := HLAST.out
            unfold stepV at hl
            have HL := Lib.hid hl
            clear hl HLAST hold hnew
            have hscr := Lib.hid (show scrN a b (i + 1) (k + 1) = scrN a b (i + 1) k ++ [chOf b 3 (i + 1) k] from HT.out.scr)
            have HCH := Lib.hid (fun W => change_any a b T (i + 1) k 3 W (by decide) (by decide) (fun _ => by omega))
            unfold cmpV stepV chV at HCH
            generalize chOf b 3 (i + 1) k = C at HCH hscr
            obtain ⟨ck, cp, cy⟩ := C
            simp only at HCH
            have j1 : (0 : Int) < (i : Int) + 1 := by omega
            have w1 : IntKind.i64.wrap (i : Int) = (i : Int) := wrap_num _ (by omega) (by omega)
            have w2 : IntKind.i64.wrap (k : Int) = (k : Int) := wrap_num _ (by omega) (by omega)
            have w3 : IntKind.i64.wrap ((i : Int) + 1) = (i : Int) + 1 := wrap_num _ (by omega) (by omega)
            clear HT
            go_wp2_with fail
            refine HL.out.mono ?_
            rintro e w2 ⟨rfl, hb2⟩
            have hs2 := hb2.size
            have d0 := fun u : Obj => cell_one (u := u) ((hb2.cell (p := ⟨wt.heap.size, 0, none⟩) (by show wt.heap.size < wr.heap.size; omega)).trans c0)
            have d1 := fun u : Obj => cell_one (u := u) ((hb2.cell (p := ⟨wt.heap.size, 1, none⟩) (by show wt.heap.size < wr.heap.size; omega)).trans c1)
            have d2 := fun u : Obj => cell_one (u := u) ((hb2.cell (p := ⟨wt.heap.size, 2, none⟩) (by show wt.heap.size < wr.heap.size; omega)).trans c2)
            have HBZ := Lib.hid (fun (u : Obj) (q : Nat) => below_drewN (hb2.alloc hs2 u) q)
            go_wp2_with fail
            go_quiet (fail)
            go_wp2_with fail
            refine (HCH.out _).mono ?_
            rintro e w3 ⟨rfl, hb3⟩
            have hb4 : Below wr.heap.size wr w3 := (HBZ.out _ _).trans (hb3.mono (by simp; omega))
            have hs4 : wr.heap.size ≤ w3.heap.size := hb4.size
            have HB4 := Lib.hid hb4
            clear hb3 hb4 d0 d1 d2
            go_wp2_with (at_builtin; refine wpList_append_back rfl (.tmp 47) (.tmp 53) rfl (wt.heap.size + 1) ?_ (ck, cp, cy) u7 L ?_ ?_ ?_ (by omega) ?_)
            · omega
            · simp [Act.eval]
            · exact HOWN.out.keep HB4.out
            · simp [Act.eval]
            · intro v' w5 hown5 hb5
              have HO := Lib.hid hown5
              have HB := Lib.hid hb5
              clear hown5 hb5
              go_wp2
              exact ⟨⟨(i + 1), k, L ++ [(ck, cp, cy)], by omega, by omega, rfl, rfl, HO.out, by rw [List.reverse_append]; have := HCS.out; rw [hscr.out, List.append_assoc] at this; exact this, (hbw.trans (HB4.out.mono hsz)).trans HB.out⟩, by simp [intOf] <;> omega⟩
        · obtain ⟨i, rfl⟩ : ∃ i', i = i' + 1 + 1 := ⟨i - 2, by simp only [oldN] at hold; omega⟩
          obtain ⟨k, rfl⟩ : ∃ k', k = k' + 1 + 1 := ⟨k - 2, by simp only [newN] at hnew; omega⟩
          have hl := HLAST.out
          unfold stepV at hl
          have HL := Lib.hid hl
          clear hl HLAST hold hnew
          have hscr := Lib.hid (show scrN a b (i + 1 + 1) (k + 1 + 1) = scrN a b i k ++ [chOf b 4 i k] from HT.out.scr)
          have HCH := Lib.hid (fun W => change_any a b T i k 4 W (by decide) (by decide) (fun _ => by omega))
          unfold cmpV stepV chV at HCH
          generalize chOf b 4 i k = C at HCH hscr
          obtain ⟨ck, cp, cy⟩ := C
          simp only at HCH
          have j1 : (0 : Int) < (i : Int) + 1 + 1 := by omega
          have w1 : IntKind.i64.wrap (i : Int) = (i : Int) := wrap_num _ (by omega) (by omega)
          have w2 : IntKind.i64.wrap (k : Int) = (k : Int) := wrap_num _ (by omega) (by omega)
          have v1 : (i : Int) + 1 + 1 - 2 = (i : Int) := by omega
          have v2 : (k : Int) + 1 + 1 - 2 = (k : Int) := by omega
          clear HT
          go_wp2_with fail
          refine HL.out.mono ?_
          rintro e w2 ⟨rfl, hb2⟩
          have hs2 := hb2.size
          have d0 := fun u : Obj => cell_one (u := u) ((hb2.cell (p := ⟨wt.heap.size, 0, none⟩) (by show wt.heap.size < wr.heap.size; omega)).trans c0)
          have d1 := fun u : Obj => cell_one (u := u) ((hb2.cell (p := ⟨wt.heap.size, 1, none⟩) (by show wt.heap.size < wr.heap.size; omega)).trans c1)
          have d2 := fun u : Obj => cell_one (u := u) ((hb2.cell (p := ⟨wt.heap.size, 2, none⟩) (by show wt.heap.size < wr.heap.size; omega)).trans c2)
          have HBZ := Lib.hid (fun (u : Obj) (q : Nat) => below_drewN (hb2.alloc hs2 u) q)
          go_wp2_with fail
          go_quiet (fail)
          go_wp2_with fail
          refine (HCH.out _).mono ?_
          rintro e w3 ⟨rfl, hb3⟩
          have hb4 : Below wr.heap.size wr w3 := (HBZ.out _ _).trans (hb3.mono (by simp; omega))
          have hs4 : wr.heap.size ≤ w3.heap.size := hb4.size
          have HB4 := Lib.hid hb4
          clear hb3 hb4 d0 d1 d2
          go_wp2_with (at_builtin; refine wpList_append_back rfl (.tmp 47) (.tmp 53) rfl (wt.heap.size + 1) ?_ (ck, cp, cy) u7 L ?_ ?_ ?_ (by omega) ?_)
          · omega
          · simp [Act.eval]
          · exact HOWN.out.keep HB4.out
          · simp [Act.eval]
          · intro v' w5 hown5 hb5
            have HO := Lib.hid hown5
            have HB := Lib.hid hb5
            clear hown5 hb5
            go_wp2
            exact ⟨⟨i, k, L ++ [(ck, cp, cy)], by omega, by omega, rfl, rfl, HO.out, by rw [List.reverse_append]; have := HCS.out; rw [hscr.out, List.append_assoc] at this; exact this, (hbw.trans (HB4.out.mono hsz)).trans HB.out⟩, by simp [intOf] <;> omega⟩
end Go.Proofs.YtgokinfejbefjaaDoor
