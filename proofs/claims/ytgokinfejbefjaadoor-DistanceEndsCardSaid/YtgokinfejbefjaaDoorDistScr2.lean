/- The walk of the reference's Script. -/
import Derived.Test.YtgokinfejbefjaaDoorDistScr
namespace Go.Proofs.YtgokinfejbefjaaDoor
open Go.RowKit
set_option linter.unusedVariables false
set_option maxRecDepth 100000

/-- What Script returns. -/
def scN (a b : ByteArray) : List DM.Ch × Nat := if 64 < a.size ∨ 64 < b.size then ([], 1) else (scrN a b a.size b.size, 0)
theorem scrN_all (a b : ByteArray) : scrN a b a.size b.size = DM.script a.data.toList b.data.toList := by
  unfold scrN DM.script
  rw [List.take_of_length_le (by simp), List.take_of_length_le (by simp)]
theorem scrN_len (a b : ByteArray) : (scrN a b a.size b.size).length = distB a b := by
  rw [scrN_all]
  exact (DM.script_all a.data.toList b.data.toList).2.2.2
theorem scrN_ok (a b : ByteArray) (h : a.size ≤ 64) : ∀ x ∈ scrN a b a.size b.size, chOk x := by
  intro x hx
  rw [scrN_all] at hx
  have hr := List.all_eq_true.1 (DM.script_all a.data.toList b.data.toList).2.1 x hx
  have := DM.right_cases hr
  rw [size_list] at this
  unfold chOk
  omega
theorem OwnsCh.is {base : Nat} {w : World} {v : Value} {cs : List DM.Ch} (h : OwnsCh base w v cs) (hok : ∀ x ∈ cs, chOk x) : IsChs w.heap.size w v cs := by
  rcases h.2 with ⟨hv, h0⟩ | ⟨g, cap, cur, hv, hbg, hg, hnc, hcm, hcs, htake⟩
  · have : cs = [] := List.eq_nil_of_length_eq_zero h0
    subst this
    exact ⟨none, 0, hv, by simp, by simp [maxLen], hok, .inl rfl⟩
  · refine ⟨_, cap, hv, hnc, hcm, hok, .inr ⟨g, 0, rfl, (Array.getElem?_eq_some_iff.1 hg).1, fun j x hx => ?_⟩⟩
    have key : ∀ t u, t < 3 → ([.int .i64 x.1, .int .i64 x.2.1, .int .i64 x.2.2] : List Value)[t]? = some u → w.cell? ⟨g, j * 3 + t, none⟩ = some u := by
      intro t u ht hu
      have hcell := World.ownsRow.cells h (g := g) (by rw [hv]; rfl) (j * 3 + t) u (by
        clear h hv hcs htake hnc hok
        induction cs generalizing j with
        | nil => simp at hx
        | cons c cs ih =>
          rw [chCells, List.flatMap_cons]
          cases j with
          | zero =>
            simp at hx
            subst hx
            rw [Nat.zero_mul, Nat.zero_add, List.getElem?_append_left (by simpa using ht)]
            exact hu
          | succ j =>
            rw [List.getElem?_append_right (by simp; omega)]
            have := ih j (by simpa using hx)
            rw [show (j + 1) * 3 + t - ([.int .i64 c.1, .int .i64 c.2.1, .int .i64 c.2.2] : List Value).length = j * 3 + t from by simp; omega]
            exact this)
      have hp : ((⟨g, 0, none⟩ : Addr).add (j * 3 + t)) = ⟨g, j * 3 + t, none⟩ := by unfold Addr.add; split <;> simp_all
      rw [hp] at hcell
      exact hcell
    refine ⟨?_, ?_, ?_⟩
    · rw [Nat.zero_add]; exact key 0 _ (by decide) rfl
    · rw [Nat.zero_add]; exact key 1 _ (by decide) rfl
    · rw [Nat.zero_add]; exact key 2 _ (by decide) rfl

theorem OwnsCh.keep {base : Nat} {w w' : World} {v : Value} {cs : List DM.Ch} (h : OwnsCh base w v cs) (hb : Below w.heap.size w w') : OwnsCh base w' v cs := by
  refine World.ownsRow.kept (row := none) h ⟨hb.os, hb.tape, hb.output, hb.size, fun k hk _ => hb.block k hk⟩ ?_
  cases v.ownBlock with
  | none => exact .inl rfl
  | some k => exact .inr (by simp)
theorem wrap64_num (n : Int) (h0 : 0 ≤ n) (h1 : n < 9223372036854775808) : wrap64 n = n := by
  unfold wrap64; omega

theorem sizes3 {n : Nat} {wr : World} {X : Obj} {p q r : Addr} {u0 u1 u2 : Value} : (((((wr.alloc X).drewN n).setCell p u0).setCell q u1).setCell r u2).heap.size = wr.heap.size + 1 := by simp
theorem stored3 {B n : Nat} {wt wr w5 : World} {X : Obj} {u0 u1 u2 : Value} (hbr : Below B wt wr) (hB : B ≤ wr.heap.size)
    (h5 : Below B (((((wr.alloc X).drewN n).setCell ⟨wr.heap.size, 0, none⟩ u0).setCell ⟨wr.heap.size, 1, none⟩ u1).setCell ⟨wr.heap.size, 2, none⟩ u2) w5) : Below B wt w5 :=
  hbr.trans ((((((below_drewN ((Below.refl B wr).alloc hB X) n).setCell hB _).setCell hB _).setCell hB _)).trans h5)
theorem OwnsCh.stored3 {base n : Nat} {wr : World} {v : Value} {cs : List DM.Ch} {X : Obj} {u0 u1 u2 : Value} (h : OwnsCh base wr v cs) :
    OwnsCh base (((((wr.alloc X).drewN n).setCell ⟨wr.heap.size, 0, none⟩ u0).setCell ⟨wr.heap.size, 1, none⟩ u1).setCell ⟨wr.heap.size, 2, none⟩ u2) v cs :=
  h.keep ((((below_drewN ((Below.refl _ wr).alloc (Nat.le_refl _) X) n).setCell (Nat.le_refl _) _).setCell (Nat.le_refl _) _).setCell (Nat.le_refl _) _)
theorem tabN_left (a b : ByteArray) (k : Nat) (h : k ≤ b.size) : tabN a b 0 k = k := by
  unfold tabN DM.tab
  rw [DM.dist, List.take_zero, List.reverse_nil, DM.d_nil, List.length_reverse, List.length_take, size_list]; omega
theorem tabN_top (a b : ByteArray) (i : Nat) (h : i ≤ a.size) : tabN a b i 0 = i := by
  unfold tabN DM.tab
  rw [DM.dist, List.take_zero, List.reverse_nil, DM.d_nil', List.length_reverse, List.length_take, size_list]; omega

/-- A table that lies below. -/
structure Tab (N : Nat) (a b : ByteArray) (W : World) : Prop where
  row : ∀ i, i ≤ a.size → W.cell? ⟨N, i, none⟩ = some (.slice (some ⟨N + 1 + i, 0, none⟩) (b.size + 1) (b.size + 1))
  val : ∀ i k, i ≤ a.size → k ≤ b.size → W.cell? ⟨N + 1 + i, k, none⟩ = some (.int .i64 (tabN a b i k : Int))
theorem TOuter.tab {w W : World} {a b : ByteArray} (h : TOuter w W (a.size + 1) (b.size + 1) (a.size + 1) (tabN a b)) : Tab w.heap.size a b W where
  row i hi := by
    have := h.top.cell (i := i) (by omega)
    unfold topV at this
    rwa [if_pos (by omega)] at this
  val i k hi hk := (h.done i (by omega)).cell (i := k) (by omega)
theorem Tab.below {N B : Nat} {a b : ByteArray} {W W' : World} (h : Tab N a b W) (hb : Below B W W') (hN : N + 1 + a.size < B) : Tab N a b W' where
  row i hi := (hb.cell (p := ⟨N, i, none⟩) (by show N < B; omega)).trans (h.row i hi)
  val i k hi hk := (hb.cell (p := ⟨N + 1 + i, k, none⟩) (by show N + 1 + i < B; omega)).trans (h.val i k hi hk)

set_option maxHeartbeats 4000000 in
theorem rScript_any (a b : ByteArray) (w : World) (ha : a.size ≤ maxLen) (hb : b.size ≤ maxLen) :
    Calls Tryd.prog 16 #[.string a, .string b] w fun e w' => ∃ v, e = .returned (.tuple #[v, .int .i64 ((scN a b).2 : Int)]) ∧ IsChs w'.heap.size w' v (scN a b).1 ∧ Below w.heap.size w w' := by
  unfold maxLen at ha hb
  by_cases h : 64 < a.size ∨ 64 < b.size
  · have hv : scN a b = ([], 1) := by unfold scN; rw [if_pos h]
    rw [hv]
    have hnil : ∀ W : World, IsChs W.heap.size W (.slice none 0 0) [] := fun W => ⟨none, 0, rfl, Nat.le_refl _, Nat.zero_le _, by simp, .inl rfl⟩
    have HN := Lib.hid hnil
    clear hv hnil
    go_enter Tryd.func16, Tryd.ntmps16
    by_cases h1 : 64 < a.size
    · go_wp2
      go_ret2
      exact ⟨_, rfl, HN.out _, Below.refl _ _⟩
    · have h2 : 64 < b.size := h.resolve_left h1
      go_wp2
      go_ret2
      exact ⟨_, rfl, HN.out _, Below.refl _ _⟩
  · have h1 : a.size ≤ 64 := by omega
    have h2 : b.size ≤ 64 := by omega
    have hv : scN a b = (scrN a b a.size b.size, 0) := by unfold scN; rw [if_neg h]
    rw [hv]
    have HOK := Lib.hid (scrN_ok a b h1)
    have HLEN := Lib.hid (show (scrN a b a.size b.size).length ≤ 64 by rw [scrN_len]; have := distB_max a b; omega)
    obtain ⟨F, hF⟩ : ∃ F, F = scrN a b a.size b.size := ⟨_, rfl⟩
    rw [← hF] at HOK HLEN ⊢
    have HF := Lib.hid hF
    clear hv h hF
    go_enter Tryd.func16, Tryd.ntmps16
    go_wp2_with fail
    refine (rtable_any a b w h1 h2).mono ?_
    rintro e wt ⟨rfl, hT⟩
    have HT := Lib.hid hT.tab
    have hbt := since_below hT.since
    have hst := hT.size
    clear hT
    go_wp2
    go_loopw [7, 8, 9] (fun iv kv ov wr => ∃ (i k : Nat) (cs : List DM.Ch), i ≤ a.size ∧ k ≤ b.size ∧ iv = .int .i64 i ∧ kv = .int .i64 k ∧ OwnsCh wt.heap.size wr ov cs ∧ (cs = [] → ov = .slice none 0 0) ∧ scrN a b i k ++ cs = F ∧ Below wt.heap.size wt wr) (fun iv kv _ _ => (intOf iv).toNat + (intOf kv).toNat)
    case atStart => exact ⟨a.size, b.size, [], Nat.le_refl _, Nat.le_refl _, rfl, rfl, World.ownsRow_nil _ _ _ _, fun _ => rfl, by rw [List.append_nil]; exact HF.out.symm, Below.refl _ _⟩
    case round =>
      obtain ⟨i, k, cs, hi, hk, rfl, rfl, hown, hnil, hcs, hbr⟩ := hrel
      have HOWN := Lib.hid hown
      have HNIL := Lib.hid hnil
      have HCS := Lib.hid hcs
      clear hown hnil hcs
      have hT := HT.out.below hbr (by omega)
      have hsr := hbr.size
      have hlen : cs.length ≤ 64 := by have := congrArg List.length HCS.out; rw [List.length_append] at this; have := HLEN.out; omega
      by_cases h0 : i = 0 ∧ k = 0
      · obtain ⟨rfl, rfl⟩ := h0
        have hcF : cs = F := by have := HCS.out; rwa [scrN_zero, List.nil_append] at this
        go_wp2
        go_ret2
        rw [hcF] at HOWN
        exact ⟨_, rfl, HOWN.out.is HOK.out, hbt.trans (hbr.mono hbt.size)⟩
      · by_cases hi0 : i = 0
        · have z0 := 0
          obtain ⟨k, rfl⟩ : ∃ k', k = k' + 1 := ⟨k - 1, by omega⟩
          subst hi0
          have hkb : k < b.size := by omega
          have c1 := hT.row 0 (by omega)
          have d1 := hT.val 0 (k + 1) (by omega) hk
          have d4 := hT.val 0 k (by omega) (by omega)
          rw [tabN_left a b _ hk] at d1
          rw [tabN_left a b _ (by omega)] at d4
          have HS := Lib.hid (scrN_left a b k hkb)
          have j0 : (0 : Int) < (a.size : Int) + 1 := by omega
          have j2 : (k : Int) < (b.size : Int) := by omega
          have j4 : (k : Int) + 1 < (b.size : Int) + 1 := by omega
          have j6 : (k : Int) < (b.size : Int) + 1 := by omega
          have j8 : (0 : Int) < (k : Int) + 1 := by omega
          have j10 : (0 : Int) ≤ (k : Int) + 1 := by omega
          have w2 : IntKind.i64.wrap (k : Int) = (k : Int) := wrap_num _ (by omega) (by omega)
          clear hT h0
          replace c1 := cell_one (u := .cells #[.int .i64 0, .int .i64 0, .int .i64 0] 46) c1
          replace d1 := cell_one (u := .cells #[.int .i64 0, .int .i64 0, .int .i64 0] 46) d1
          replace d4 := cell_one (u := .cells #[.int .i64 0, .int .i64 0, .int .i64 0] 46) d4
          have w3 : wrap64 (b[k].toNat : Int) = (b[k].toNat : Int) := by have := b[k].toNat_lt; exact wrap64_num _ (by omega) (by omega)
          go_wp2_with fail
          go_quiet (fail)
          go_wp2_with fail
          go_quiet (fail)
          go_wp2_with fail
          go_quiet (fail)
          go_wp2_with fail
          go_quiet (fail)
          go_wp2_with (at_builtin; refine wpList_append_front rfl (.tmp 173) (.tmp 174) rfl wt.heap.size ?_ (1, 0, (b[k].toNat : Int)) ?_ u9 cs rfl ?_ HNIL.out (by omega) ?_)
          · rw [sizes3]; omega
          · simp [Act.eval]
          · exact HOWN.out.stored3
          · intro v' w5 hown5 hb5
            have HO := Lib.hid hown5
            have HB := Lib.hid hb5
            clear hown5 hb5
            go_wp2_with fail
            exact ⟨⟨0, k, (1, 0, (b[k].toNat : Int)) :: cs, by omega, by omega, rfl, rfl, (by rw [hst]; exact HO.out), (fun h => by cases h), by have := HCS.out; rw [HS.out, List.append_assoc] at this; exact this, stored3 hbr hsr (by rw [hst]; exact HB.out)⟩, by simp [intOf] <;> omega⟩
        · by_cases hk0 : k = 0
          · have z0 := 0
            obtain ⟨i, rfl⟩ : ∃ i', i = i' + 1 := ⟨i - 1, by omega⟩
            subst hk0
            have hia : i < a.size := by omega
            have c1 := hT.row (i + 1) hi
            have c2 := hT.row i (by omega)
            have d1 := hT.val (i + 1) 0 hi (by omega)
            have d3 := hT.val i 0 (by omega) (by omega)
            rw [tabN_top a b _ hi] at d1
            rw [tabN_top a b _ (by omega)] at d3
            have HS := Lib.hid (scrN_top a b i hia)
            have j0 : (0 : Int) < (b.size : Int) + 1 := by omega
            have j2 : (i : Int) < (a.size : Int) := by omega
            have j4 : (i : Int) + 1 < (a.size : Int) + 1 := by omega
            have j6 : (i : Int) < (a.size : Int) + 1 := by omega
            have j8 : (0 : Int) < (i : Int) + 1 := by omega
            have j10 : (0 : Int) ≤ (i : Int) + 1 := by omega
            have w1 : IntKind.i64.wrap (i : Int) = (i : Int) := wrap_num _ (by omega) (by omega)
            clear hT h0
            replace c1 := cell_one (u := .cells #[.int .i64 0, .int .i64 0, .int .i64 0] 46) c1
            replace c2 := cell_one (u := .cells #[.int .i64 0, .int .i64 0, .int .i64 0] 46) c2
            replace d1 := cell_one (u := .cells #[.int .i64 0, .int .i64 0, .int .i64 0] 46) d1
            replace d3 := cell_one (u := .cells #[.int .i64 0, .int .i64 0, .int .i64 0] 46) d3
            go_wp2_with fail
            go_quiet (fail)
            go_wp2_with fail
            go_quiet (fail)
            go_wp2_with fail
            go_quiet (fail)
            go_wp2_with (at_builtin; refine wpList_append_front rfl (.tmp 173) (.tmp 174) rfl wt.heap.size ?_ (2, (i : Int), 0) ?_ u9 cs rfl ?_ HNIL.out (by omega) ?_)
            · rw [sizes3]; omega
            · simp [Act.eval]
            · exact HOWN.out.stored3
            · intro v' w5 hown5 hb5
              have HO := Lib.hid hown5
              have HB := Lib.hid hb5
              clear hown5 hb5
              go_wp2_with fail
              exact ⟨⟨i, 0, (2, (i : Int), 0) :: cs, by omega, by omega, rfl, rfl, (by rw [hst]; exact HO.out), (fun h => by cases h), by have := HCS.out; rw [HS.out, List.append_assoc] at this; exact this, stored3 hbr hsr (by rw [hst]; exact HB.out)⟩, by simp [intOf] <;> omega⟩
          · clear h0
            obtain ⟨i, rfl⟩ : ∃ i', i = i' + 1 := ⟨i - 1, by omega⟩
            obtain ⟨k, rfl⟩ : ∃ k', k = k' + 1 := ⟨k - 1, by omega⟩
            have hia : i < a.size := by omega
            have hkb : k < b.size := by omega
            have c1 := hT.row (i + 1) hi
            have c2 := hT.row i (by omega)
            have d1 := hT.val (i + 1) (k + 1) hi hk
            have d2 := hT.val i k (by omega) (by omega)
            have d3 := hT.val i (k + 1) (by omega) hk
            have d4 := hT.val (i + 1) k hi (by omega)
            have z1 := tabN_le a b (i + 1) (k + 1) h1 h2
            have z2 := tabN_le a b i k h1 h2
            have z3 := tabN_le a b i (k + 1) h1 h2
            have z4 := tabN_le a b (i + 1) k h1 h2
            have j1 : (i : Int) < (a.size : Int) := by omega
            have j2 : (k : Int) < (b.size : Int) := by omega
            have j3 : (i : Int) + 1 < (a.size : Int) + 1 := by omega
            have j4 : (k : Int) + 1 < (b.size : Int) + 1 := by omega
            have j5 : (i : Int) < (a.size : Int) + 1 := by omega
            have j6 : (k : Int) < (b.size : Int) + 1 := by omega
            have j7 : (0 : Int) < (i : Int) + 1 := by omega
            have j8 : (0 : Int) < (k : Int) + 1 := by omega
            have j9 : (0 : Int) ≤ (i : Int) + 1 := by omega
            have j10 : (0 : Int) ≤ (k : Int) + 1 := by omega
            have w1 : IntKind.i64.wrap (i : Int) = (i : Int) := wrap_num _ (by omega) (by omega)
            have w2 : IntKind.i64.wrap (k : Int) = (k : Int) := wrap_num _ (by omega) (by omega)
            by_cases he : a[i] = b[k]
            · obtain ⟨s1, s2⟩ := scrN_same a b i k hia hkb he
              have HS := Lib.hid s1
              have t1 : ((a[i].toNat : Int) == (b[k].toNat : Int)) = true := by rw [he]; simp
              rw [s2] at d1
              clear he s1 s2 z1 hT d3 d4 z3 z4
              generalize tabN a b i k = X1 at *
              replace c1 := cell_one (u := .cells #[.int .i64 0, .int .i64 0, .int .i64 0] 46) c1
              replace c2 := cell_one (u := .cells #[.int .i64 0, .int .i64 0, .int .i64 0] 46) c2
              replace d1 := cell_one (u := .cells #[.int .i64 0, .int .i64 0, .int .i64 0] 46) d1
              replace d2 := cell_one (u := .cells #[.int .i64 0, .int .i64 0, .int .i64 0] 46) d2
              go_wp2_with fail
              go_quiet (fail)
              go_wp2
              exact ⟨⟨i, k, cs, by omega, by omega, rfl, rfl, World.ownsRow.alloc HOWN.out _, HNIL.out, by rw [← HS.out]; exact HCS.out, below_drewN (hbr.alloc hsr _) _⟩, by simp [intOf]; omega⟩
            · have t1 : ((a[i].toNat : Int) == (b[k].toNat : Int)) = false := by simp; intro h; exact he (UInt8.toNat_inj.1 (by omega))
              by_cases e1 : tabN a b (i + 1) (k + 1) = tabN a b i k + 1
              · have HS := Lib.hid (scrN_replace a b i k hia hkb he e1)
                rw [e1] at d1
                clear he hT d3 d4 z1 z3 z4 e1
                generalize tabN a b i k = X1 at *
                replace c1 := cell_one (u := .cells #[.int .i64 0, .int .i64 0, .int .i64 0] 46) c1
                replace c2 := cell_one (u := .cells #[.int .i64 0, .int .i64 0, .int .i64 0] 46) c2
                replace d1 := cell_one (u := .cells #[.int .i64 0, .int .i64 0, .int .i64 0] 46) d1
                replace d2 := cell_one (u := .cells #[.int .i64 0, .int .i64 0, .int .i64 0] 46) d2
                have w3 : wrap64 (b[k].toNat : Int) = (b[k].toNat : Int) := by have := b[k].toNat_lt; exact wrap64_num _ (by omega) (by omega)
                go_wp2_with fail
                go_quiet (fail)
                go_wp2_with fail
                go_quiet (fail)
                go_wp2_with (at_builtin; refine wpList_append_front rfl (.tmp 173) (.tmp 174) rfl wt.heap.size ?_ (3, (i : Int), (b[k].toNat : Int)) ?_ u9 cs rfl ?_ HNIL.out (by omega) ?_)
                · rw [sizes3]; omega
                · simp [Act.eval]
                · exact HOWN.out.stored3
                · intro v' w5 hown5 hb5
                  have HO := Lib.hid hown5
                  have HB := Lib.hid hb5
                  clear hown5 hb5
                  go_wp2_with fail
                  exact ⟨⟨i, k, (3, (i : Int), (b[k].toNat : Int)) :: cs, by omega, by omega, rfl, rfl, (by rw [hst]; exact HO.out), (fun h => by cases h), by have := HCS.out; rw [HS.out, List.append_assoc] at this; exact this, stored3 hbr hsr (by rw [hst]; exact HB.out)⟩, by simp [intOf] <;> omega⟩
              · by_cases e2 : tabN a b (i + 1) (k + 1) = tabN a b i (k + 1) + 1
                · have HS := Lib.hid (scrN_delete a b i k hia hkb he e1 e2)
                  have t2 : ((tabN a b (i + 1) (k + 1) : Int) == (tabN a b i k : Int) + 1) = false := by simp; omega
                  rw [e2] at d1 t2
                  clear he hT d4 z1 z4 e1 e2
                  generalize tabN a b i k = X2 at *
                  generalize tabN a b i (k + 1) = X3 at *
                  replace c1 := cell_one (u := .cells #[.int .i64 0, .int .i64 0, .int .i64 0] 46) c1
                  replace c2 := cell_one (u := .cells #[.int .i64 0, .int .i64 0, .int .i64 0] 46) c2
                  replace d1 := cell_one (u := .cells #[.int .i64 0, .int .i64 0, .int .i64 0] 46) d1
                  replace d2 := cell_one (u := .cells #[.int .i64 0, .int .i64 0, .int .i64 0] 46) d2
                  replace d3 := cell_one (u := .cells #[.int .i64 0, .int .i64 0, .int .i64 0] 46) d3
                  go_wp2_with fail
                  go_quiet (fail)
                  go_wp2_with fail
                  go_quiet (fail)
                  go_wp2_with fail
                  go_quiet (fail)
                  go_wp2_with (at_builtin; refine wpList_append_front rfl (.tmp 173) (.tmp 174) rfl wt.heap.size ?_ (2, (i : Int), 0) ?_ u9 cs rfl ?_ HNIL.out (by omega) ?_)
                  · rw [sizes3]; omega
                  · simp [Act.eval]
                  · exact HOWN.out.stored3
                  · intro v' w5 hown5 hb5
                    have HO := Lib.hid hown5
                    have HB := Lib.hid hb5
                    clear hown5 hb5
                    go_wp2_with fail
                    exact ⟨⟨i, k + 1, (2, (i : Int), 0) :: cs, by omega, by omega, rfl, rfl, (by rw [hst]; exact HO.out), (fun h => by cases h), by have := HCS.out; rw [HS.out, List.append_assoc] at this; exact this, stored3 hbr hsr (by rw [hst]; exact HB.out)⟩, by simp [intOf] <;> omega⟩
                · by_cases e3 : tabN a b (i + 1) (k + 1) = tabN a b (i + 1) k + 1
                  · have HS := Lib.hid (scrN_insert a b i k hia hkb he e1 e2 e3)
                    have t2 : ((tabN a b (i + 1) (k + 1) : Int) == (tabN a b i k : Int) + 1) = false := by simp; omega
                    have t3 : ((tabN a b (i + 1) (k + 1) : Int) == (tabN a b i (k + 1) : Int) + 1) = false := by simp; omega
                    rw [e3] at d1 t2 t3
                    clear he hT z1 e1 e2 e3
                    generalize tabN a b i k = X2 at *
                    generalize tabN a b i (k + 1) = X3 at *
                    generalize tabN a b (i + 1) k = X4 at *
                    replace c1 := cell_one (u := .cells #[.int .i64 0, .int .i64 0, .int .i64 0] 46) c1
                    replace c2 := cell_one (u := .cells #[.int .i64 0, .int .i64 0, .int .i64 0] 46) c2
                    replace d1 := cell_one (u := .cells #[.int .i64 0, .int .i64 0, .int .i64 0] 46) d1
                    replace d2 := cell_one (u := .cells #[.int .i64 0, .int .i64 0, .int .i64 0] 46) d2
                    replace d3 := cell_one (u := .cells #[.int .i64 0, .int .i64 0, .int .i64 0] 46) d3
                    replace d4 := cell_one (u := .cells #[.int .i64 0, .int .i64 0, .int .i64 0] 46) d4
                    have w3 : wrap64 (b[k].toNat : Int) = (b[k].toNat : Int) := by have := b[k].toNat_lt; exact wrap64_num _ (by omega) (by omega)
                    go_wp2_with fail
                    go_quiet (fail)
                    go_wp2_with fail
                    go_quiet (fail)
                    go_wp2_with fail
                    go_quiet (fail)
                    go_wp2_with fail
                    go_quiet (fail)
                    go_wp2_with (at_builtin; refine wpList_append_front rfl (.tmp 173) (.tmp 174) rfl wt.heap.size ?_ (1, (i : Int) + 1, (b[k].toNat : Int)) ?_ u9 cs rfl ?_ HNIL.out (by omega) ?_)
                    · rw [sizes3]; omega
                    · simp [Act.eval]
                    · exact HOWN.out.stored3
                    · intro v' w5 hown5 hb5
                      have HO := Lib.hid hown5
                      have HB := Lib.hid hb5
                      clear hown5 hb5
                      go_wp2_with fail
                      exact ⟨⟨i + 1, k, (1, (i : Int) + 1, (b[k].toNat : Int)) :: cs, by omega, by omega, rfl, rfl, (by rw [hst]; exact HO.out), (fun h => by cases h), by have := HCS.out; rw [HS.out, List.append_assoc] at this; exact this, stored3 hbr hsr (by rw [hst]; exact HB.out)⟩, by simp [intOf] <;> omega⟩
                  · obtain ⟨i, k, rfl, rfl, hs⟩ := scrN_swap a b i k hia hkb he e1 e2 e3
                    have HS := Lib.hid (show scrN a b (i + 1 + 1) (k + 1 + 1) = scrN a b i k ++ [(4, (i : Int) + 1 + 1 - 2, 0)] by rw [show (i : Int) + 1 + 1 - 2 = i by omega]; exact hs)
                    have t2 : ((tabN a b (i + 1 + 1) (k + 1 + 1) : Int) == (tabN a b (i + 1) (k + 1) : Int) + 1) = false := by simp; omega
                    have t3 : ((tabN a b (i + 1 + 1) (k + 1 + 1) : Int) == (tabN a b (i + 1) (k + 1 + 1) : Int) + 1) = false := by simp; omega
                    have t4 : ((tabN a b (i + 1 + 1) (k + 1 + 1) : Int) == (tabN a b (i + 1 + 1) (k + 1) : Int) + 1) = false := by simp; omega
                    have q1 : (0 : Int) < (i : Int) + 1 + 1 := by omega
                    have q2 : (0 : Int) < (k : Int) + 1 + 1 := by omega
                    have q3 : (0 : Int) ≤ (i : Int) + 1 + 1 := by omega
                    have q4 : (0 : Int) ≤ (k : Int) + 1 + 1 := by omega
                    have q5 : (i : Int) + 1 < (a.size : Int) := by omega
                    have q6 : (k : Int) + 1 < (b.size : Int) := by omega
                    have q7 : (i : Int) + 1 + 1 < (a.size : Int) + 1 := by omega
                    have q8 : (k : Int) + 1 + 1 < (b.size : Int) + 1 := by omega
                    have q9 : (0 : Int) ≤ (i : Int) + 1 := by omega
                    have q10 : (0 : Int) ≤ (k : Int) + 1 := by omega
                    have q11 : (i : Int) + 1 < (a.size : Int) + 1 := by omega
                    have q12 : (k : Int) + 1 < (b.size : Int) + 1 := by omega
                    have w5 : IntKind.i64.wrap ((i : Int) + 1) = (i : Int) + 1 := wrap_num _ (by omega) (by omega)
                    have w6 : IntKind.i64.wrap ((k : Int) + 1) = (k : Int) + 1 := wrap_num _ (by omega) (by omega)
                    have w7 : IntKind.i64.wrap (i : Int) = (i : Int) := wrap_num _ (by omega) (by omega)
                    have w8 : IntKind.i64.wrap (k : Int) = (k : Int) := wrap_num _ (by omega) (by omega)
                    clear he hT e1 e2 e3 hs
                    generalize tabN a b (i + 1 + 1) (k + 1 + 1) = X1 at *
                    generalize tabN a b (i + 1) (k + 1) = X2 at *
                    generalize tabN a b (i + 1) (k + 1 + 1) = X3 at *
                    generalize tabN a b (i + 1 + 1) (k + 1) = X4 at *
                    replace c1 := cell_one (u := .cells #[.int .i64 0, .int .i64 0, .int .i64 0] 46) c1
                    replace c2 := cell_one (u := .cells #[.int .i64 0, .int .i64 0, .int .i64 0] 46) c2
                    replace d1 := cell_one (u := .cells #[.int .i64 0, .int .i64 0, .int .i64 0] 46) d1
                    replace d2 := cell_one (u := .cells #[.int .i64 0, .int .i64 0, .int .i64 0] 46) d2
                    replace d3 := cell_one (u := .cells #[.int .i64 0, .int .i64 0, .int .i64 0] 46) d3
                    replace d4 := cell_one (u := .cells #[.int .i64 0, .int .i64 0, .int .i64 0] 46) d4
                    go_wp2_with fail
                    go_quiet (fail)
                    go_wp2_with fail
                    go_quiet (fail)
                    go_wp2_with fail
                    go_quiet (fail)
                    go_wp2_with fail
                    go_quiet (fail)
                    go_wp2_with (at_builtin; refine wpList_append_front rfl (.tmp 173) (.tmp 174) rfl wt.heap.size ?_ (4, (i : Int) + 1 + 1 - 2, 0) ?_ u9 cs rfl ?_ HNIL.out (by omega) ?_)
                    · rw [sizes3]; omega
                    · simp [Act.eval]
                    · exact HOWN.out.stored3
                    · intro v' w5 hown5 hb5
                      have HO := Lib.hid hown5
                      have HB := Lib.hid hb5
                      clear hown5 hb5
                      go_wp2_with fail
                      exact ⟨⟨i, k, (4, (i : Int) + 1 + 1 - 2, 0) :: cs, by omega, by omega, by go_num, by go_num, (by rw [hst]; exact HO.out), (fun h => by cases h), by have := HCS.out; rw [HS.out, List.append_assoc] at this; exact this, stored3 hbr hsr (by rw [hst]; exact HB.out)⟩, by simp [intOf] <;> omega⟩
end Go.Proofs.YtgokinfejbefjaaDoor
