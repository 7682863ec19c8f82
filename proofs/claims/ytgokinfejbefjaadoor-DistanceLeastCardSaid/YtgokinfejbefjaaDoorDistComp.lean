/- The walk of the program's compare: the table of all beginnings, row by row. -/
import Derived.Test.YtgokinfejbefjaaDoorDistLast
import Derived.Deep.OwnRows
import Derived.Deep.RegionWith
namespace Go.Proofs.YtgokinfejbefjaaDoor
open Go.RowKit
set_option maxRecDepth 100000

/-- The table's own cells when c rows are made; row j lies in block R j. -/
def topR (R : Nat → Nat) (m c : Nat) (j : Nat) : Value := if j < c then .slice (some ⟨R j, 0, none⟩) m m else .slice none 0 0
/-- c rows are made, of the last one k cells are written; the rows before are full. -/
structure CIn (w wr : World) (a b : ByteArray) (n m c k : Nat) (R : Nat → Nat) : Prop where
  below : Below w.heap.size w wr
  size : w.heap.size + 3 ≤ wr.heap.size
  res : wr.heap[w.heap.size]? = some (.cells #[.string ⟨#[]⟩, .string ⟨#[]⟩, .slice none 0 0] 57 (0, 0))
  box : wr.heap[w.heap.size + 2]? = some (.cells #[.string a, .string b, .slice (some ⟨w.heap.size + 1, 0, none⟩) n n] 57 (0, 0))
  top : wr.rowIs (w.heap.size + 1) 22 n (topR R m (c + 1))
  cur : wr.rowIs (R c) 3 m (rowV (tabN a b c) k)
  done : ∀ j, j < c → wr.rowIs (R j) 3 m (fun k => .int .i64 (tabN a b j k : Int))
  up : ∀ j, j ≤ c → w.heap.size + 3 ≤ R j
  apart : ∀ j, j < c → R j < R c
/-- c rows are full. -/
structure COut (w wr : World) (a b : ByteArray) (n m c : Nat) (R : Nat → Nat) : Prop where
  below : Below w.heap.size w wr
  size : w.heap.size + 3 ≤ wr.heap.size
  res : wr.heap[w.heap.size]? = some (.cells #[.string ⟨#[]⟩, .string ⟨#[]⟩, .slice none 0 0] 57 (0, 0))
  box : wr.heap[w.heap.size + 2]? = some (.cells #[.string a, .string b, .slice (some ⟨w.heap.size + 1, 0, none⟩) n n] 57 (0, 0))
  top : wr.rowIs (w.heap.size + 1) 22 n (topR R m c)
  done : ∀ j, j < c → wr.rowIs (R j) 3 m (fun k => .int .i64 (tabN a b j k : Int))
  up : ∀ j, j < c → w.heap.size + 3 ≤ R j ∧ R j < wr.heap.size

theorem CIn.keep {w wr w2 : World} {a b : ByteArray} {n m c k : Nat} {R : Nat → Nat} (h : CIn w wr a b n m c k R) (hb : Below wr.heap.size wr w2) : CIn w w2 a b n m c k R where
  below := h.below.trans (hb.mono h.below.size)
  size := Nat.le_trans h.size hb.size
  res := (hb.block _ (by have := h.size; omega)).trans h.res
  box := (hb.block _ (by have := h.size; omega)).trans h.box
  top := h.top.of_block (hb.block _ h.top.lt)
  cur := h.cur.of_block (hb.block _ h.cur.lt)
  done j hj := (h.done j hj).of_block (hb.block _ (h.done j hj).lt)
  up := h.up
  apart := h.apart
theorem CIn.put {w wr : World} {a b : ByteArray} {n m c k : Nat} {R : Nat → Nat} (h : CIn w wr a b n m c k R) : CIn w (wr.setCell ⟨R c, k, none⟩ (.int .i64 (tabN a b c k : Int))) a b n m c (k + 1) R where
  below := h.below.setCell (p := ⟨R c, k, none⟩) (by have := h.up c (Nat.le_refl _); show w.heap.size ≤ R c; omega) _
  size := by simpa [World.setCell] using h.size
  res := (Below.heap_setCell wr ⟨R c, k, none⟩ _ _ (by have := h.up c (Nat.le_refl _); show w.heap.size ≠ R c; omega)).trans h.res
  box := (Below.heap_setCell wr ⟨R c, k, none⟩ _ _ (by have := h.up c (Nat.le_refl _); show w.heap.size + 2 ≠ R c; omega)).trans h.box
  top := h.top.setOther (by have := h.up c (Nat.le_refl _); show w.heap.size + 1 ≠ R c; omega) _
  cur := (h.cur.set k _).congr fun j _ => by
    unfold rowV
    by_cases e : j = k
    · subst e
      rw [if_pos rfl, if_pos (by omega)]
    · rw [if_neg e]
      by_cases e2 : j < k
      · rw [if_pos e2, if_pos (by omega)]
      · rw [if_neg e2, if_neg (by omega)]
  done j hj := (h.done j hj).setOther (by have := h.apart j hj; show R j ≠ R c; omega) _
  up := h.up
  apart := h.apart
theorem CIn.outer {w wr : World} {a b : ByteArray} {n m c : Nat} {R : Nat → Nat} (h : CIn w wr a b n m c m R) : COut w wr a b n m (c + 1) R where
  below := h.below
  size := h.size
  res := h.res
  box := h.box
  top := h.top
  done j hj := by
    by_cases e : j = c
    · subst e
      exact h.cur.congr fun i hi => by unfold rowV; rw [if_pos hi]
    · exact h.done j (by omega)
  up j hj := ⟨h.up j (by omega), by
    by_cases e : j = c
    · subst e
      exact h.cur.lt
    · exact (h.done j (by omega)).lt⟩
theorem COut.inner {w wr : World} {a b : ByteArray} {n m c : Nat} {R : Nat → Nat} (h : COut w wr a b n m c R) :
    CIn w ((wr.alloc (.cells (madeCells #[.int .i64 0] m) 3)).setCell ⟨w.heap.size + 1, c, none⟩ (.slice (some ⟨wr.heap.size, 0, none⟩) m m)) a b n m c 0 (fun j => if j = c then wr.heap.size else R j) := by
  have hsz := h.size
  refine ⟨?_, ?_, ?_, ?_, ?_, ?_, ?_, ?_, ?_⟩
  · exact (h.below.alloc h.below.size _).setCell (p := ⟨w.heap.size + 1, c, none⟩) (by show w.heap.size ≤ w.heap.size + 1; omega) _
  · simp [World.setCell]; omega
  · exact (Below.heap_setCell _ ⟨w.heap.size + 1, c, none⟩ _ _ (by show w.heap.size ≠ w.heap.size + 1; omega)).trans ((Below.heap_alloc wr _ w.heap.size (by omega)).trans h.res)
  · exact (Below.heap_setCell _ ⟨w.heap.size + 1, c, none⟩ _ _ (by show w.heap.size + 2 ≠ w.heap.size + 1; omega)).trans ((Below.heap_alloc wr _ (w.heap.size + 2) (by omega)).trans h.box)
  · refine (World.rowIs.set (w := wr.alloc (.cells (madeCells #[.int .i64 0] m) 3)) (h.top.alloc _) c _).congr fun j _ => ?_
    unfold topR
    try dsimp only
    by_cases e : j = c
    · subst e
      rw [if_pos rfl, if_pos (by omega), if_pos rfl]
    · rw [if_neg e, if_neg e]
      by_cases e2 : j < c
      · rw [if_pos e2, if_pos (by omega)]
      · rw [if_neg e2, if_neg (by omega)]
  · try dsimp only
    rw [if_pos rfl]
    refine (World.rowIs.setOther (w := wr.alloc (.cells (madeCells #[.int .i64 0] m) 3)) (World.rowIs_made wr (.int .i64 0) m 3) (by show wr.heap.size ≠ w.heap.size + 1; omega) _).congr fun j _ => by simp [rowV]
  · intro j hj
    try dsimp only
    rw [if_neg (by omega)]
    have hu := h.up j hj
    exact World.rowIs.setOther (w := wr.alloc (.cells (madeCells #[.int .i64 0] m) 3)) ((h.done j hj).alloc _) (by show R j ≠ w.heap.size + 1; omega) _
  · intro j hj
    try dsimp only
    split
    · omega
    · exact (h.up j (by omega)).1
  · intro j hj
    have hu := h.up j hj
    try dsimp only
    rw [if_neg (by omega), if_pos rfl]
    exact hu.2
theorem CIn.drewN {w wr : World} {a b : ByteArray} {n m c k : Nat} {R : Nat → Nat} (h : CIn w wr a b n m c k R) (q : Nat) : CIn w (wr.drewN q) a b n m c k R := ⟨below_drewN h.below q, h.size, h.res, h.box, h.top, h.cur, h.done, h.up, h.apart⟩
theorem CIn.drew {w wr : World} {a b : ByteArray} {n m c k : Nat} {R : Nat → Nat} (h : CIn w wr a b n m c k R) : CIn w wr.drew a b n m c k R := ⟨h.below.drew, h.size, h.res, h.box, h.top, h.cur, h.done, h.up, h.apart⟩
theorem cout_start (w : World) (a b : ByteArray) (n m : Nat) :
    COut w (((w.alloc (.cells #[.string ⟨#[]⟩, .string ⟨#[]⟩, .slice none 0 0] 57)).alloc (.cells (madeCells #[.slice none 0 0] n) 22)).alloc (.cells #[.string a, .string b, .slice (some ⟨w.heap.size + 1, 0, none⟩) n n] 57)) a b n m 0 (fun _ => 0) where
  below := (((Below.refl _ w).alloc (Nat.le_refl _) _).alloc (by simp) _).alloc (by simp; omega) _
  size := by simp
  res := (Below.heap_alloc _ _ _ (by simp; omega)).trans ((Below.heap_alloc _ _ _ (by simp)).trans (heap_alloc_new w _))
  box := by
    have := heap_alloc_new ((w.alloc (.cells #[.string ⟨#[]⟩, .string ⟨#[]⟩, .slice none 0 0] 57)).alloc (.cells (madeCells #[.slice none 0 0] n) 22)) (.cells #[.string a, .string b, .slice (some ⟨w.heap.size + 1, 0, none⟩) n n] 57)
    rwa [World.size_alloc, World.size_alloc] at this
  top := by
    have := World.rowIs_made (w.alloc (.cells #[.string ⟨#[]⟩, .string ⟨#[]⟩, .slice none 0 0] 57)) (.slice none 0 0) n 22
    rw [World.size_alloc] at this
    exact (this.alloc _).congr fun j _ => by simp [topR]
  done j hj := absurd hj (Nat.not_lt_zero _)
  up j hj := absurd hj (Nat.not_lt_zero _)
theorem COut.known {w wr : World} {a b : ByteArray} {n c : Nat} {R : Nat → Nat} (h : COut w wr a b n (b.size + 1) c R) (i j : Nat) (hi : i < c) (hn : i < n) (hj : j < b.size + 1) : KnownAt wr a b (w.heap.size + 1) i j := by
  refine ⟨R i, ?_, (h.done i hi).cell hj⟩
  have := h.top.cell hn
  unfold topR at this
  rwa [if_pos hi] at this
theorem COut.known_set {w wr : World} {a b : ByteArray} {n c : Nat} {R : Nat → Nat} (h : COut w wr a b n (b.size + 1) c R) (u0 u1 u2 : Value) (i j : Nat) (hi : i < c) (hn : i < n) (hj : j < b.size + 1) :
    KnownAt (((wr.setCell ⟨w.heap.size, 0, none⟩ u0).setCell ⟨w.heap.size, 1, none⟩ u1).setCell ⟨w.heap.size, 2, none⟩ u2) a b (w.heap.size + 1) i j := by
  have hu := h.up i hi
  refine ⟨R i, ?_, ((((h.done i hi).setOther (a := ⟨w.heap.size, 0, none⟩) (by show R i ≠ w.heap.size; omega) u0).setOther (a := ⟨w.heap.size, 1, none⟩) (by show R i ≠ w.heap.size; omega) u1).setOther (a := ⟨w.heap.size, 2, none⟩) (by show R i ≠ w.heap.size; omega) u2).cell hj⟩
  have := (((h.top.setOther (a := ⟨w.heap.size, 0, none⟩) (by show w.heap.size + 1 ≠ w.heap.size; omega) u0).setOther (a := ⟨w.heap.size, 1, none⟩) (by show w.heap.size + 1 ≠ w.heap.size; omega) u1).setOther (a := ⟨w.heap.size, 2, none⟩) (by show w.heap.size + 1 ≠ w.heap.size; omega) u2).cell hn
  unfold topR at this
  rwa [if_pos hi] at this
theorem CIn.known {w wr : World} {a b : ByteArray} {n c k : Nat} {R : Nat → Nat} (h : CIn w wr a b n (b.size + 1) c k R) (i j : Nat) (hi : i < c ∨ (i = c ∧ j < k)) (hn : i < n) (hj : j < b.size + 1) : KnownAt wr a b (w.heap.size + 1) i j := by
  refine ⟨R i, ?_, ?_⟩
  · have := h.top.cell hn
    unfold topR at this
    rwa [if_pos (by omega)] at this
  · rcases hi with hi | ⟨rfl, hi⟩
    · exact (h.done i hi).cell hj
    · have := h.cur.cell hj
      unfold rowV at this
      rwa [if_pos hi] at this

set_option maxHeartbeats 8000000 in
theorem compare_any (a b : ByteArray) (w : World) (hE : SEnv w) (ha : a.size ≤ 64) (hb : b.size ≤ 64) :
    Calls Tryd.prog 30 #[.string a, .string b] w fun e w' => ∃ T, e = .returned (cmpV a b T) ∧ (∀ i j, i ≤ a.size → j ≤ b.size → KnownAt w' a b T i j) ∧ Below w.heap.size w w' := by
  have HE := Lib.hid hE
  have hmk1 := run_make_row' (P := Tryd.prog) 55 22 (.slice none 0 0) 24 Tryd.underlying55 infoInts rfl .i64 .i64 (a.size + 1) (by omega) (by omega)
  have hmk2 := run_make_row' (P := Tryd.prog) 22 3 (.int .i64 0) 8 Tryd.underlying22 infoInt rfl .i64 .i64 (b.size + 1) (by omega) (by omega)
  rw [show ((a.size + 1 : Nat) : Int) = (a.size : Int) + 1 from rfl] at hmk1
  rw [show ((b.size + 1 : Nat) : Int) = (b.size : Int) + 1 from rfl] at hmk2
  go_enter Tryd.func30, Tryd.ntmps30
  have HS0 := Lib.hid (cout_start w a b (a.size + 1) (b.size + 1))
  go_wp2
  clear hmk1
  have HMK := Lib.hid hmk2
  clear hmk2
  go_loopw [18] (fun i wr => ∃ (c : Nat) (R : Nat → Nat), c ≤ a.size + 1 ∧ i = .int .i64 c ∧ COut w wr a b (a.size + 1) (b.size + 1) c R) (fun i _ => a.size + 1 - (intOf i).toNat)
  case atStart => exact ⟨0, fun _ => 0, Nat.zero_le _, rfl, HS0.out⟩
  case round =>
    obtain ⟨c, R, hc, rfl, hO⟩ := hrel
    have HO := Lib.hid hO
    have hsz := hO.size
    by_cases hcn : c < a.size + 1
    · have hmk2 := HMK.out
      have x2 : wr.cell? ⟨w.heap.size + 1 + 1, 2, none⟩ = some (.slice (some ⟨w.heap.size + 1, 0, none⟩) (a.size + 1) (a.size + 1)) := by rw [cell_of_row _ _ _ _ _ _ hO.box]; rfl
      have x2a := fun u : Obj => cell_one (u := u) x2
      have hst1 : ∀ o, (wr.alloc o).cell? ⟨w.heap.size + 1, c, none⟩ = some (topR R (b.size + 1) c c) := fun o => (hO.top.alloc o).cell hcn
      have hst2 : ∀ o, (wr.alloc o).frozen? ⟨w.heap.size + 1, c, none⟩ = false := fun o => (hO.top.alloc o).frozen c
      have hlt : (c : Int) < (a.size : Int) + 1 := by omega
      obtain ⟨R', HR', HI⟩ : ∃ R' : Nat → Nat, Hid (R' c = wr.heap.size) ∧ Hid (CIn w ((wr.alloc (.cells (madeCells #[.int .i64 0] (b.size + 1)) 3)).setCell ⟨w.heap.size + 1, c, none⟩ (.slice (some ⟨wr.heap.size, 0, none⟩) (b.size + 1) (b.size + 1))) a b (a.size + 1) (b.size + 1) c 0 R') :=
        ⟨fun j => if j = c then wr.heap.size else R j, Lib.hid (if_pos rfl), Lib.hid hO.inner⟩
      clear hO
      go_wp2
      go_region
      go_wp2
      clear hst1 hst2 hmk2 x2 x2a
      go_loopw [35] (fun k wi => ∃ q : Nat, q ≤ b.size + 1 ∧ k = .int .i64 q ∧ CIn w wi a b (a.size + 1) (b.size + 1) c q R') (fun k _ => b.size + 1 - (intOf k).toNat)
      case atStart => exact ⟨0, Nat.zero_le _, rfl, HI.out.drew⟩
      case round =>
        obtain ⟨k, hk, rfl, hI⟩ := hrel
        have HR := Lib.hid hI
        by_cases hkm : k < b.size + 1
        · have hlm : (k : Int) < (b.size : Int) + 1 := by omega
          have ftop := Lib.hid (fun W (h : CIn w W a b (a.size + 1) (b.size + 1) c k R') => (show W.cell? ⟨w.heap.size + 1, c, none⟩ = some (.slice (some ⟨R' c, 0, none⟩) (b.size + 1) (b.size + 1)) by
            have := h.top.cell hcn
            unfold topR at this
            rwa [if_pos (Nat.lt_succ_self c)] at this))
          have fbox := Lib.hid (fun W (h : CIn w W a b (a.size + 1) (b.size + 1) c k R') => (show W.cell? ⟨w.heap.size + 1 + 1, 0, none⟩ = some (.string a) ∧ W.cell? ⟨w.heap.size + 1 + 1, 1, none⟩ = some (.string b) ∧ W.cell? ⟨w.heap.size + 1 + 1, 2, none⟩ = some (.slice (some ⟨w.heap.size + 1, 0, none⟩) (a.size + 1) (a.size + 1)) by
            have hb := h.box
            exact ⟨by rw [cell_of_row _ _ _ _ _ _ hb]; rfl, by rw [cell_of_row _ _ _ _ _ _ hb]; rfl, by rw [cell_of_row _ _ _ _ _ _ hb]; rfl⟩))
          have fcur := Lib.hid (fun W (h : CIn w W a b (a.size + 1) (b.size + 1) c k R') => (show W.cell? ⟨R' c, k, none⟩ = some (.int .i64 0) ∧ W.frozen? ⟨R' c, k, none⟩ = false by
            refine ⟨?_, h.cur.frozen k⟩
            have := h.cur.cell hkm
            unfold rowV at this
            rwa [if_neg (Nat.lt_irrefl k)] at this))
          have HS := Lib.hid (fun W (h : CIn w W a b (a.size + 1) (b.size + 1) c k R') => shortest_any a b (w.heap.size + 1) c k W (HE.out.below h.below (Nat.le_refl _)) ha hb (by omega) (by omega) (fun i' j' h1 h2 h3 => h.known i' j' (by omega) (by omega) (by omega)))
          unfold cmpV at HS
          have g0 := ftop.out _ hI
          obtain ⟨g1, g2, g3⟩ := fbox.out _ hI
          clear hI
          go_wp2
          go_region_with (go_at_call 41; refine (HS.out _ (by first | exact HR.out | exact HR.out.drew | exact HR.out.drewN _)).mono ?_; rintro e w2 ⟨rfl, hb2⟩; have HR2 := Lib.hid ((show CIn w _ a b (a.size + 1) (b.size + 1) c k R' by first | exact HR.out | exact HR.out.drew | exact HR.out.drewN _).keep hb2); have y0 := ftop.out _ HR2.out; obtain ⟨y1, y2, y3⟩ := fbox.out _ HR2.out; obtain ⟨y4, y5⟩ := fcur.out _ HR2.out)
          all_goals
            go_wp2
            exact ⟨⟨k + 1, by omega, by go_num, HR2.out.put⟩, by simp [intOf]; omega⟩
        · obtain rfl : k = b.size + 1 := by omega
          clear hI
          go_wp2
          exact ⟨⟨c + 1, R', by omega, by go_num, HR.out.outer⟩, by simp [intOf]; omega⟩
    · obtain rfl : c = a.size + 1 := by omega
      have hbx := hO.box
      have hrs := hO.res
      have x0 : wr.cell? ⟨w.heap.size + 1 + 1, 0, none⟩ = some (.string a) := by rw [cell_of_row _ _ _ _ _ _ hbx]; rfl
      have x1 : wr.cell? ⟨w.heap.size + 1 + 1, 1, none⟩ = some (.string b) := by rw [cell_of_row _ _ _ _ _ _ hbx]; rfl
      have x2 : wr.cell? ⟨w.heap.size + 1 + 1, 2, none⟩ = some (.slice (some ⟨w.heap.size + 1, 0, none⟩) (a.size + 1) (a.size + 1)) := by rw [cell_of_row _ _ _ _ _ _ hbx]; rfl
      have z0 : wr.cell? ⟨w.heap.size, 0, none⟩ = some (.string ⟨#[]⟩) := by rw [cell_of_row _ _ _ _ _ _ hrs]; rfl
      have z1 : wr.cell? ⟨w.heap.size, 1, none⟩ = some (.string ⟨#[]⟩) := by rw [cell_of_row _ _ _ _ _ _ hrs]; rfl
      have z2 : wr.cell? ⟨w.heap.size, 2, none⟩ = some (.slice none 0 0) := by rw [cell_of_row _ _ _ _ _ _ hrs]; rfl
      have f0 : wr.frozen? ⟨w.heap.size, 0, none⟩ = false := Lib.frozen_of_heap hrs 0
      have f1 : wr.frozen? ⟨w.heap.size, 1, none⟩ = false := Lib.frozen_of_heap hrs 1
      have f2 : wr.frozen? ⟨w.heap.size, 2, none⟩ = false := Lib.frozen_of_heap hrs 2
      clear hO hbx hrs
      go_wp2
      exact bodyPost_ret (v := cmpV a b (w.heap.size + 1)) (by simp [results, Tryd.results30, cmpV, go_sem, z0, z1, z2]) rfl ⟨_, rfl, fun i j hi hj => HO.out.known_set _ _ _ i j (by omega) (by omega) (by omega), ((HO.out.below.setCell (p := ⟨w.heap.size, 0, none⟩) (Nat.le_refl _) _).setCell (p := ⟨w.heap.size, 1, none⟩) (Nat.le_refl _) _).setCell (p := ⟨w.heap.size, 2, none⟩) (Nat.le_refl _) _⟩
end Go.Proofs.YtgokinfejbefjaaDoor
