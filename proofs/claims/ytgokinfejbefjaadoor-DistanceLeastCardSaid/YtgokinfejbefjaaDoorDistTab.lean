/- The walk of the reference's table of distances. -/
import Derived.Test.YtgokinfejbefjaaDoorEBase
import Derived.Test.YtgokinfejbefjaaDoorDistScript
import Derived.Deep.OwnRows
namespace Go.Proofs.YtgokinfejbefjaaDoor
open Go.RowKit
set_option maxRecDepth 100000

theorem wrap_num (n : Int) (h0 : 0 ≤ n) (h1 : n < 9223372036854775808) : IntKind.i64.wrap n = n := by
  simp [IntKind.wrap, IntKind.bits, IntKind.signed]
  omega
theorem infoInt : (Tryd.prog.info? 3).map (fun i => (i.zero, i.size, i.bytes)) = some (some (.int .i64 0), 1, 8) := by kernel_rfl
theorem infoInts : (Tryd.prog.info? 22).map (fun i => (i.zero, i.size, i.bytes)) = some (some (.slice none 0 0), 1, 24) := by kernel_rfl

/-- The table's own cells when c rows are made. -/
def topV (N m c : Nat) (j : Nat) : Value := if j < c then .slice (some ⟨N + 1 + j, 0, none⟩) m m else .slice none 0 0
def rowV (Z : Nat → Nat) (k : Nat) (j : Nat) : Value := if j < k then .int .i64 (Z j : Int) else .int .i64 0
/-- c rows are full. -/
structure TOuter (w wr : World) (n m c : Nat) (Z : Nat → Nat → Nat) : Prop where
  since : w.Since w.heap.size wr
  size : wr.heap.size = w.heap.size + 1 + c
  top : wr.rowIs w.heap.size 22 n (topV w.heap.size m c)
  done : ∀ j, j < c → wr.rowIs (w.heap.size + 1 + j) 3 m (fun k => .int .i64 (Z j k : Int))
/-- c rows are full, of the next one k cells are written. -/
structure TInner (w wr : World) (n m c k : Nat) (Z : Nat → Nat → Nat) : Prop where
  since : w.Since w.heap.size wr
  size : wr.heap.size = w.heap.size + 1 + (c + 1)
  top : wr.rowIs w.heap.size 22 n (topV w.heap.size m (c + 1))
  cur : wr.rowIs (w.heap.size + 1 + c) 3 m (rowV (Z c) k)
  done : ∀ j, j < c → wr.rowIs (w.heap.size + 1 + j) 3 m (fun k => .int .i64 (Z j k : Int))

theorem touter_start (w : World) (n m : Nat) (Z : Nat → Nat → Nat) : TOuter w (w.alloc (.cells (madeCells #[.slice none 0 0] n) 22)) n m 0 Z where
  since := (World.Since.refl _ w).alloc (Nat.le_refl _) _
  size := by simp
  top := (World.rowIs_made w (.slice none 0 0) n 22).congr fun i _ => by simp [topV]
  done j hj := absurd hj (Nat.not_lt_zero _)
theorem TOuter.inner {w wr : World} {n m c : Nat} {Z : Nat → Nat → Nat} (h : TOuter w wr n m c Z) :
    TInner w ((wr.alloc (.cells (madeCells #[.int .i64 0] m) 3)).setCell ⟨w.heap.size, c, none⟩ (.slice (some ⟨w.heap.size + 1 + c, 0, none⟩) m m)) n m c 0 Z := by
  have hs := h.size
  have hne : ∀ j, w.heap.size + 1 + j ≠ w.heap.size := fun j => by omega
  refine ⟨(h.since.alloc (by omega) _).setCell (Nat.le_refl _) _, by simp [World.setCell, hs]; omega, ?_, ?_, ?_⟩
  · refine ((h.top.alloc _).set c _).congr fun j _ => ?_
    unfold topV
    by_cases e : j = c
    · subst e
      rw [if_pos rfl, if_pos (by omega)]
    · rw [if_neg e]
      by_cases e2 : j < c
      · rw [if_pos e2, if_pos (by omega)]
      · rw [if_neg e2, if_neg (by omega)]
  · have := World.rowIs_made wr (.int .i64 0) m 3
    rw [hs] at this
    exact (this.setOther (hne c) _).congr fun j _ => by simp [rowV]
  · exact fun j hj => ((h.done j hj).alloc _).setOther (hne j) _
theorem TInner.step {w wr : World} {n m c k : Nat} {Z : Nat → Nat → Nat} (h : TInner w wr n m c k Z) : TInner w (wr.setCell ⟨w.heap.size + 1 + c, k, none⟩ (.int .i64 (Z c k : Int))) n m c (k + 1) Z where
  since := h.since.setCell (by show w.heap.size ≤ w.heap.size + 1 + c; omega) _
  size := by simpa [World.setCell] using h.size
  top := h.top.setOther (by show w.heap.size ≠ w.heap.size + 1 + c; omega) _
  cur := (h.cur.set k _).congr fun j _ => by
    unfold rowV
    by_cases e : j = k
    · subst e
      rw [if_pos rfl, if_pos (by omega)]
    · rw [if_neg e]
      by_cases e2 : j < k
      · rw [if_pos e2, if_pos (by omega)]
      · rw [if_neg e2, if_neg (by omega)]
  done j hj := (h.done j hj).setOther (by show w.heap.size + 1 + j ≠ w.heap.size + 1 + c; omega) _
theorem TInner.drew {w wr : World} {n m c k : Nat} {Z : Nat → Nat → Nat} (h : TInner w wr n m c k Z) : TInner w wr.drew n m c k Z := ⟨h.since.drew, h.size, h.top.drew, h.cur.drew, fun j hj => (h.done j hj).drew⟩
theorem TInner.drewN {w wr : World} {n m c k : Nat} {Z : Nat → Nat → Nat} (h : TInner w wr n m c k Z) (q : Nat) : TInner w (wr.drewN q) n m c k Z := ⟨⟨h.since.os, h.since.tape, h.since.output, h.since.size, h.since.block⟩, h.size, h.top, h.cur, h.done⟩
theorem TInner.put {w wr : World} {n m c k M : Nat} {Z : Nat → Nat → Nat} (h : TInner w wr n m c k Z) (hz : Z c k = M) (q : Nat) :
    TInner w ((wr.drewN q).setCell ⟨w.heap.size + 1 + c, k, none⟩ (.int .i64 (M : Int))) n m c (k + 1) Z := by
  subst hz
  exact (h.drewN q).step
theorem TInner.outer {w wr : World} {n m c : Nat} {Z : Nat → Nat → Nat} (h : TInner w wr n m c m Z) : TOuter w wr n m (c + 1) Z where
  since := h.since
  size := h.size
  top := h.top
  done j hj := by
    by_cases e : j = c
    · subst e
      exact h.cur.congr fun i hi => by unfold rowV; rw [if_pos hi]
    · exact h.done j (by omega)

theorem min3 {W : World} (ts : Array TypeId) (t : TypeId) (x y z : Int) (M : Nat) (h : (M : Int) = min x (min y z)) : (Builtin.min_ ts t #[.int .i64 x, .int .i64 y, .int .i64 z]).run Tryd.prog W = .ok (.int .i64 (M : Int)) W := by
  rw [run_min_int3]
  congr 2
  rw [h]
  split <;> split <;> omega
theorem min2 {W : World} (ts : Array TypeId) (t : TypeId) (x y : Int) (M : Nat) (h : (M : Int) = min x y) : (Builtin.min_ ts t #[.int .i64 x, .int .i64 y]).run Tryd.prog W = .ok (.int .i64 (M : Int)) W := by
  rw [run_min_int2]
  congr 2
  rw [h]
  split <;> omega
def tabN (a b : ByteArray) (i k : Nat) : Nat := DM.tab a.data.toList b.data.toList i k

theorem tabN_le (a b : ByteArray) (i k : Nat) (ha : a.size ≤ 64) (hb : b.size ≤ 64) : tabN a b i k ≤ 64 := by
  unfold tabN DM.tab
  have := DM.dist_max (a.data.toList.take i) (b.data.toList.take k)
  have h1 : (a.data.toList.take i).length ≤ a.size := by rw [List.length_take]; simp; omega
  have h2 : (b.data.toList.take k).length ≤ b.size := by rw [List.length_take]; simp; omega
  omega
theorem tabN_base (a b : ByteArray) (c k : Nat) (hc : c < a.size) (hk : k < b.size) (h : c = 0 ∨ k = 0) :
    tabN a b (c + 1) (k + 1) = min (tabN a b c k + (if a[c] = b[k] then 0 else 1)) (min (tabN a b c (k + 1) + 1) (tabN a b (c + 1) k + 1)) :=
  DM.tab_base a.data.toList b.data.toList c k (by simpa using hc) (by simpa using hk) h
theorem tabN_next (a b : ByteArray) (c k : Nat) (hc : c + 1 < a.size) (hk : k + 1 < b.size) :
    tabN a b (c + 2) (k + 2) = if a[c + 1] = b[k] ∧ a[c] = b[k + 1] then min (min (tabN a b (c + 1) (k + 1) + (if a[c + 1] = b[k + 1] then 0 else 1)) (min (tabN a b (c + 1) (k + 2) + 1) (tabN a b (c + 2) (k + 1) + 1))) (tabN a b c k + 1)
      else min (tabN a b (c + 1) (k + 1) + (if a[c + 1] = b[k + 1] then 0 else 1)) (min (tabN a b (c + 1) (k + 2) + 1) (tabN a b (c + 2) (k + 1) + 1)) :=
  DM.tab_next a.data.toList b.data.toList c k (by simpa using hc) (by simpa using hk)

set_option maxHeartbeats 20000000 in
theorem rtable_any (a b : ByteArray) (w : World) (ha : a.size ≤ 64) (hb : b.size ≤ 64) :
    Calls Tryd.prog 31 #[.string a, .string b] w fun e w' => e = .returned (.slice (some ⟨w.heap.size, 0, none⟩) (a.size + 1) (a.size + 1)) ∧ TOuter w w' (a.size + 1) (b.size + 1) (a.size + 1) (tabN a b) := by
  obtain ⟨n, hn⟩ : ∃ n, n = a.size + 1 := ⟨_, rfl⟩
  obtain ⟨m, hm⟩ : ∃ m, m = b.size + 1 := ⟨_, rfl⟩
  have hn65 : n ≤ 65 := by omega
  have hm65 : m ≤ 65 := by omega
  have hni : (a.size : Int) + 1 = (n : Int) := by omega
  have hmi : (b.size : Int) + 1 = (m : Int) := by omega
  have hmk1 := run_make_row' (P := Tryd.prog) 55 22 (.slice none 0 0) 24 Tryd.underlying55 infoInts rfl .i64 .i64 n (by omega) (by omega)
  rw [← hni] at hmk1
  have hO0 := Lib.hid (touter_start w n m (tabN a b))
  rw [← hn, ← hm]
  have HMI := Lib.hid hmi
  have HNI := Lib.hid hni
  clear hmi hni hm hn
  go_enter Tryd.func31, Tryd.ntmps31
  go_wp2
  go_loopw [6] (fun i wr => ∃ c : Nat, c ≤ n ∧ i = .int .i64 c ∧ TOuter w wr n m c (tabN a b)) (fun i _ => n - (intOf i).toNat)
  case atStart => exact ⟨0, Nat.zero_le _, rfl, hO0.out⟩
  case round =>
    obtain ⟨c, hc, rfl, hO⟩ := hrel
    have HO := Lib.hid hO
    have hsize := hO.size
    by_cases hcn : c < n
    · have hmk2 := run_make_row' (P := Tryd.prog) 22 3 (.int .i64 0) 8 Tryd.underlying22 infoInt rfl .i64 .i64 m (by omega) (by omega)
      rw [← HMI.out] at hmk2
      have hst1 : ∀ o, (wr.alloc o).cell? ⟨w.heap.size, c, none⟩ = some (topV w.heap.size m c c) := fun o => (hO.top.alloc o).cell hcn
      have hst2 : ∀ o, (wr.alloc o).frozen? ⟨w.heap.size, c, none⟩ = false := fun o => (hO.top.alloc o).frozen c
      have hle : (c : Int) ≤ (a.size : Int) := by have := HNI.out; omega
      have hlt : (c : Int) < (n : Int) := by omega
      have HI := Lib.hid hO.inner
      clear hO
      go_wp2
      clear hst1 hst2 hmk1 hmk2 hle hlt
      go_loopw [7] (fun k wi => ∃ q : Nat, q ≤ m ∧ k = .int .i64 q ∧ TInner w wi n m c q (tabN a b)) (fun k _ => m - (intOf k).toNat)
      case atStart => first | exact ⟨0, Nat.zero_le _, rfl, HI.out⟩ | exact ⟨0, Nat.zero_le _, rfl, HI.out.drew⟩
      case round =>
        obtain ⟨k, hk, rfl, hI⟩ := hrel
        have HR := Lib.hid hI
        by_cases hkm : k < m
        · have hle : (k : Int) ≤ (b.size : Int) := by have := HMI.out; omega
          have hlm : (k : Int) < (m : Int) := by omega
          have hlc : (c : Int) < (n : Int) := by omega
          have g1 : wr.cell? ⟨w.heap.size, c, none⟩ = some (.slice (some ⟨w.heap.size + 1 + c, 0, none⟩) m m) := by
            have := hI.top.cell hcn
            unfold topV at this
            rwa [if_pos (by omega)] at this
          have g4 : wr.cell? ⟨w.heap.size + 1 + c, k, none⟩ = some (.int .i64 0) := by
            have := hI.cur.cell hkm
            unfold rowV at this
            rwa [if_neg (by omega)] at this
          have g5 : wr.frozen? ⟨w.heap.size + 1 + c, k, none⟩ = false := hI.cur.frozen k
          by_cases h0 : c = 0 ∨ k = 0
          · have hz : ((c : Int) + (k : Int)) = (tabN a b c k : Int) := by
              unfold tabN
              rcases h0 with rfl | rfl
              · rw [DM.tab_left _ _ _ (by have := HMI.out; simp; omega)]; simp
              · rw [DM.tab_top _ _ _ (by have := HNI.out; simp; omega)]; simp
            have hst := HR.out.step
            rw [← hz] at hst
            have hwz : IntKind.i64.wrap ((c : Int) + (k : Int)) = (c : Int) + (k : Int) := wrap_num _ (by omega) (by omega)
            have HST := Lib.hid hst
            clear hst hz hI
            by_cases hc0 : c = 0
            · subst hc0
              go_wp2
              exact ⟨⟨k + 1, by omega, by go_num, by simpa using HST.out⟩, by simp [intOf]; omega⟩
            · have hk0 : k = 0 := h0.resolve_left hc0
              subst hk0
              have t1 : ((c : Int) == 0) = false := by simp; omega
              clear h0 hc0
              go_wp2
              exact ⟨⟨1, by omega, rfl, by simpa using HST.out⟩, by simp [intOf]; omega⟩
          · have hc0 : c ≠ 0 := fun h => h0 (.inl h)
            have hk0 : k ≠ 0 := fun h => h0 (.inr h)
            clear h0
            obtain ⟨c, rfl⟩ : ∃ c', c = c' + 1 := ⟨c - 1, by omega⟩
            obtain ⟨k, rfl⟩ : ∃ k', k = k' + 1 := ⟨k - 1, by omega⟩
            have p1 : wr.cell? ⟨w.heap.size, c, none⟩ = some (.slice (some ⟨w.heap.size + 1 + c, 0, none⟩) m m) := by
              have := hI.top.cell (i := c) (by omega)
              unfold topV at this
              rwa [if_pos (by omega)] at this
            have r1 : wr.cell? ⟨w.heap.size + 1 + c, k, none⟩ = some (.int .i64 (tabN a b c k : Int)) := (hI.done c (by omega)).cell (i := k) (by omega)
            have r2 : wr.cell? ⟨w.heap.size + 1 + c, k + 1, none⟩ = some (.int .i64 (tabN a b c (k + 1) : Int)) := (hI.done c (by omega)).cell (i := k + 1) (by omega)
            have r3 : wr.cell? ⟨w.heap.size + 1 + (c + 1), k, none⟩ = some (.int .i64 (tabN a b (c + 1) k : Int)) := by
              have := hI.cur.cell (i := k) (by omega)
              unfold rowV at this
              rwa [if_pos (by omega)] at this
            have hca : c < a.size := by have := HNI.out; omega
            have hkb : k < b.size := by have := HMI.out; omega
            have hst := Lib.hid hI.step
            have z1 : tabN a b c k ≤ 64 := tabN_le a b c k ha hb
            have z2 : tabN a b c (k + 1) ≤ 64 := tabN_le a b _ _ ha hb
            have z3 : tabN a b (c + 1) k ≤ 64 := tabN_le a b _ _ ha hb
            have w1 : IntKind.i64.wrap (c : Int) = (c : Int) := wrap_num _ (by omega) (by omega)
            have w2 : IntKind.i64.wrap (k : Int) = (k : Int) := wrap_num _ (by omega) (by omega)
            have t1 : ((c : Int) + 1 == 0) = false := by simp; omega
            have t2 : ((k : Int) + 1 == 0) = false := by simp; omega
            have e1 : (c : Int) < (a.size : Int) := by omega
            have e2 : (k : Int) < (b.size : Int) := by omega
            have i1 : (c : Int) + 1 < (n : Int) := by omega
            have i2 : (c : Int) < (n : Int) := by omega
            have i3 : (k : Int) + 1 < (m : Int) := by omega
            have i4 : (k : Int) < (m : Int) := by omega
            by_cases h1 : c = 0
            · subst h1
              have HZ := tabN_base a b 0 k hca hkb (.inl rfl)
              generalize tabN a b 0 k = X1 at *
              generalize tabN a b 0 (k + 1) = X2 at *
              generalize tabN a b (0 + 1) k = X3 at *
              clear hI hc0 hk0
              by_cases he : a[0] = b[k]
              · have t3 : ((a[0].toNat : Int) != (b[k].toNat : Int)) = false := by rw [he]; simp
                simp only [if_pos he] at HZ
                clear he
                obtain ⟨M, hM⟩ : ∃ M, M = min (X1 + 0) (min (X2 + 1) (X3 + 1)) := ⟨_, rfl⟩
                have hmin := fun (W : World) (ts : Array TypeId) (ty : TypeId) => min3 (W := W) ts ty (X1 : Int) ((X2 : Int) + 1) ((X3 : Int) + 1) M (by omega)
                have zM : M ≤ 65 := by omega
                rw [← hM] at HZ
                clear hM
                have HZ := Lib.hid HZ
                go_wp2_with fail
                go_quiet (fail)
                go_wp2_with fail
                go_quiet (fail)
                go_wp2_with fail
                go_quiet (fail)
                go_wp2
                exact ⟨⟨k + 2, by omega, by go_num, HR.out.put HZ.out _⟩, by simp [intOf]; omega⟩
              · have t3 : ((a[0].toNat : Int) != (b[k].toNat : Int)) = true := by simp; intro h; exact he (UInt8.toNat_inj.1 (by omega))
                simp only [if_neg he] at HZ
                clear he
                obtain ⟨M, hM⟩ : ∃ M, M = min (X1 + 1) (min (X2 + 1) (X3 + 1)) := ⟨_, rfl⟩
                have hmin := fun (W : World) (ts : Array TypeId) (ty : TypeId) => min3 (W := W) ts ty ((X1 : Int) + 1) ((X2 : Int) + 1) ((X3 : Int) + 1) M (by omega)
                have zM : M ≤ 65 := by omega
                rw [← hM] at HZ
                clear hM
                have HZ := Lib.hid HZ
                go_wp2_with fail
                go_quiet (fail)
                go_wp2_with fail
                go_quiet (fail)
                go_wp2_with fail
                go_quiet (fail)
                go_wp2
                exact ⟨⟨k + 2, by omega, by go_num, HR.out.put HZ.out _⟩, by simp [intOf]; omega⟩
            · have g1c : (1 : Int) < (c : Int) + 1 := by omega
              by_cases h2 : k = 0
              · subst h2
                have HZ := tabN_base a b c 0 hca hkb (.inr rfl)
                generalize tabN a b c 0 = X1 at *
                generalize tabN a b c (0 + 1) = X2 at *
                generalize tabN a b (c + 1) 0 = X3 at *
                clear hI hc0 hk0 h1
                by_cases he : a[c] = b[0]
                · have t3 : ((a[c].toNat : Int) != (b[0].toNat : Int)) = false := by rw [he]; simp
                  simp only [if_pos he] at HZ
                  clear he
                  obtain ⟨M, hM⟩ : ∃ M, M = min (X1 + 0) (min (X2 + 1) (X3 + 1)) := ⟨_, rfl⟩
                  have hmin := fun (W : World) (ts : Array TypeId) (ty : TypeId) => min3 (W := W) ts ty (X1 : Int) ((X2 : Int) + 1) ((X3 : Int) + 1) M (by omega)
                  have zM : M ≤ 65 := by omega
                  rw [← hM] at HZ
                  clear hM
                  have HZ := Lib.hid HZ
                  go_wp2_with fail
                  go_quiet (fail)
                  go_wp2_with fail
                  go_quiet (fail)
                  go_wp2_with fail
                  go_quiet (fail)
                  go_wp2
                  exact ⟨⟨2, by omega, by go_num, HR.out.put HZ.out _⟩, by simp [intOf]; omega⟩
                · have t3 : ((a[c].toNat : Int) != (b[0].toNat : Int)) = true := by simp; intro h; exact he (UInt8.toNat_inj.1 (by omega))
                  simp only [if_neg he] at HZ
                  clear he
                  obtain ⟨M, hM⟩ : ∃ M, M = min (X1 + 1) (min (X2 + 1) (X3 + 1)) := ⟨_, rfl⟩
                  have hmin := fun (W : World) (ts : Array TypeId) (ty : TypeId) => min3 (W := W) ts ty ((X1 : Int) + 1) ((X2 : Int) + 1) ((X3 : Int) + 1) M (by omega)
                  have zM : M ≤ 65 := by omega
                  rw [← hM] at HZ
                  clear hM
                  have HZ := Lib.hid HZ
                  go_wp2_with fail
                  go_quiet (fail)
                  go_wp2_with fail
                  go_quiet (fail)
                  go_wp2_with fail
                  go_quiet (fail)
                  go_wp2
                  exact ⟨⟨2, by omega, by go_num, HR.out.put HZ.out _⟩, by simp [intOf]; omega⟩
              · have g1k : (1 : Int) < (k : Int) + 1 := by omega
                obtain ⟨c, rfl⟩ : ∃ c', c = c' + 1 := ⟨c - 1, by omega⟩
                obtain ⟨k, rfl⟩ : ∃ k', k = k' + 1 := ⟨k - 1, by omega⟩
                have HZ := tabN_next a b c k hca hkb
                have p2 : wr.cell? ⟨w.heap.size, c, none⟩ = some (.slice (some ⟨w.heap.size + 1 + c, 0, none⟩) m m) := by
                  have := hI.top.cell (i := c) (by omega)
                  unfold topV at this
                  rwa [if_pos (by omega)] at this
                have r4 : wr.cell? ⟨w.heap.size + 1 + c, k, none⟩ = some (.int .i64 (tabN a b c k : Int)) := (hI.done c (by omega)).cell (i := k) (by omega)
                have z4 : tabN a b c k ≤ 64 := tabN_le a b c k ha hb
                have u1 : IntKind.i64.wrap (c : Int) = (c : Int) := wrap_num _ (by omega) (by omega)
                have u2 : IntKind.i64.wrap (k : Int) = (k : Int) := wrap_num _ (by omega) (by omega)
                have u3 : IntKind.i64.wrap ((c : Int) + 1) = (c : Int) + 1 := wrap_num _ (by omega) (by omega)
                have u4 : IntKind.i64.wrap ((k : Int) + 1) = (k : Int) + 1 := wrap_num _ (by omega) (by omega)
                have f1 : (c : Int) + 1 < (a.size : Int) := by omega
                have f2 : (k : Int) + 1 < (b.size : Int) := by omega
                have f3 : (c : Int) < (a.size : Int) := by omega
                have f4 : (k : Int) < (b.size : Int) := by omega
                have f5 : (c : Int) + 1 + 1 < (n : Int) := by omega
                have f6 : (c : Int) + 1 < (n : Int) := by omega
                have f7 : (c : Int) < (n : Int) := by omega
                have f8 : (k : Int) + 1 + 1 < (m : Int) := by omega
                have f9 : (k : Int) + 1 < (m : Int) := by omega
                have f10 : (k : Int) < (m : Int) := by omega
                have t1' : ((c : Int) + 1 + 1 == 0) = false := by simp; omega
                have t2' : ((k : Int) + 1 + 1 == 0) = false := by simp; omega
                have q3 : (0 : Int) ≤ (c : Int) + 1 := by omega
                have q4 : (0 : Int) ≤ (k : Int) + 1 := by omega
                have q5 : (0 : Int) ≤ (c : Int) := by omega
                have q6 : (0 : Int) ≤ (k : Int) := by omega
                have q1 : (1 : Int) < (c : Int) + 1 + 1 := by omega
                have q2 : (1 : Int) < (k : Int) + 1 + 1 := by omega
                have v1 : (c : Int) + 1 + 1 - 2 = (c : Int) := by omega
                have v2 : (k : Int) + 1 + 1 - 2 = (k : Int) := by omega
                generalize tabN a b (c + 1) (k + 1) = X1 at *
                generalize tabN a b (c + 1) (k + 1 + 1) = X2 at *
                generalize tabN a b (c + 1 + 1) (k + 1) = X3 at *
                generalize tabN a b c k = X4 at *
                clear hI hc0 hk0 h1 h2
                by_cases he : a[c + 1] = b[k + 1]
                · have t3 : ((a[c + 1].toNat : Int) != (b[k + 1].toNat : Int)) = false := by rw [he]; simp
                  simp only [if_pos he] at HZ
                  clear he
                  obtain ⟨M, hM⟩ : ∃ M, M = min (X1 + 0) (min (X2 + 1) (X3 + 1)) := ⟨_, rfl⟩
                  have hmin := fun (W : World) (ts : Array TypeId) (ty : TypeId) => min3 (W := W) ts ty (X1 : Int) ((X2 : Int) + 1) ((X3 : Int) + 1) M (by omega)
                  have zM : M ≤ 65 := by omega
                  rw [← hM] at HZ
                  clear hM
                  by_cases h5 : a[c + 1] = b[k]
                  · have t5 : ((a[c + 1].toNat : Int) == (b[k].toNat : Int)) = true := by rw [h5]; simp
                    by_cases h6 : a[c] = b[k + 1]
                    · have t6 : ((a[c].toNat : Int) == (b[k + 1].toNat : Int)) = true := by rw [h6]; simp
                      rw [if_pos ⟨h5, h6⟩] at HZ
                      obtain ⟨L, hL⟩ : ∃ L, L = min M (X4 + 1) := ⟨_, rfl⟩
                      have hmin2 := fun (W : World) (ts : Array TypeId) (ty : TypeId) => min2 (W := W) ts ty (M : Int) ((X4 : Int) + 1) L (by omega)
                      rw [← hL] at HZ
                      have HZ := Lib.hid HZ
                      clear hL h5 h6
                      go_wp2_with fail
                      go_quiet (fail)
                      go_wp2_with fail
                      go_quiet (fail)
                      go_wp2_with fail
                      go_quiet (fail)
                      go_wp2
                      exact ⟨⟨k + 3, by omega, by go_num, HR.out.put HZ.out _⟩, by simp [intOf]; omega⟩
                    · have t6 : ((a[c].toNat : Int) == (b[k + 1].toNat : Int)) = false := by simp; intro h; exact h6 (UInt8.toNat_inj.1 (by omega))
                      rw [if_neg (fun h => h6 h.2)] at HZ
                      have HZ := Lib.hid HZ
                      clear h5 h6
                      go_wp2_with fail
                      go_quiet (fail)
                      go_wp2_with fail
                      go_quiet (fail)
                      go_wp2_with fail
                      go_quiet (fail)
                      go_wp2
                      exact ⟨⟨k + 3, by omega, by go_num, HR.out.put HZ.out _⟩, by simp [intOf]; omega⟩
                  · have t5 : ((a[c + 1].toNat : Int) == (b[k].toNat : Int)) = false := by simp; intro h; exact h5 (UInt8.toNat_inj.1 (by omega))
                    rw [if_neg (fun h => h5 h.1)] at HZ
                    have HZ := Lib.hid HZ
                    clear h5
                    go_wp2_with fail
                    go_quiet (fail)
                    go_wp2_with fail
                    go_quiet (fail)
                    go_wp2_with fail
                    go_quiet (fail)
                    go_wp2
                    exact ⟨⟨k + 3, by omega, by go_num, HR.out.put HZ.out _⟩, by simp [intOf]; omega⟩
                · have t3 : ((a[c + 1].toNat : Int) != (b[k + 1].toNat : Int)) = true := by simp; intro h; exact he (UInt8.toNat_inj.1 (by omega))
                  simp only [if_neg he] at HZ
                  clear he
                  obtain ⟨M, hM⟩ : ∃ M, M = min (X1 + 1) (min (X2 + 1) (X3 + 1)) := ⟨_, rfl⟩
                  have hmin := fun (W : World) (ts : Array TypeId) (ty : TypeId) => min3 (W := W) ts ty ((X1 : Int) + 1) ((X2 : Int) + 1) ((X3 : Int) + 1) M (by omega)
                  have zM : M ≤ 65 := by omega
                  rw [← hM] at HZ
                  clear hM
                  by_cases h5 : a[c + 1] = b[k]
                  · have t5 : ((a[c + 1].toNat : Int) == (b[k].toNat : Int)) = true := by rw [h5]; simp
                    by_cases h6 : a[c] = b[k + 1]
                    · have t6 : ((a[c].toNat : Int) == (b[k + 1].toNat : Int)) = true := by rw [h6]; simp
                      rw [if_pos ⟨h5, h6⟩] at HZ
                      obtain ⟨L, hL⟩ : ∃ L, L = min M (X4 + 1) := ⟨_, rfl⟩
                      have hmin2 := fun (W : World) (ts : Array TypeId) (ty : TypeId) => min2 (W := W) ts ty (M : Int) ((X4 : Int) + 1) L (by omega)
                      rw [← hL] at HZ
                      have HZ := Lib.hid HZ
                      clear hL h5 h6
                      go_wp2_with fail
                      go_quiet (fail)
                      go_wp2_with fail
                      go_quiet (fail)
                      go_wp2_with fail
                      go_quiet (fail)
                      go_wp2
                      exact ⟨⟨k + 3, by omega, by go_num, HR.out.put HZ.out _⟩, by simp [intOf]; omega⟩
                    · have t6 : ((a[c].toNat : Int) == (b[k + 1].toNat : Int)) = false := by simp; intro h; exact h6 (UInt8.toNat_inj.1 (by omega))
                      rw [if_neg (fun h => h6 h.2)] at HZ
                      have HZ := Lib.hid HZ
                      clear h5 h6
                      go_wp2_with fail
                      go_quiet (fail)
                      go_wp2_with fail
                      go_quiet (fail)
                      go_wp2_with fail
                      go_quiet (fail)
                      go_wp2
                      exact ⟨⟨k + 3, by omega, by go_num, HR.out.put HZ.out _⟩, by simp [intOf]; omega⟩
                  · have t5 : ((a[c + 1].toNat : Int) == (b[k].toNat : Int)) = false := by simp; intro h; exact h5 (UInt8.toNat_inj.1 (by omega))
                    rw [if_neg (fun h => h5 h.1)] at HZ
                    have HZ := Lib.hid HZ
                    clear h5
                    go_wp2_with fail
                    go_quiet (fail)
                    go_wp2_with fail
                    go_quiet (fail)
                    go_wp2_with fail
                    go_quiet (fail)
                    go_wp2
                    exact ⟨⟨k + 3, by omega, by go_num, HR.out.put HZ.out _⟩, by simp [intOf]; omega⟩
        · have hnle : ¬ (k : Int) ≤ (b.size : Int) := by have := HMI.out; omega
          obtain rfl : k = m := by omega
          clear hI
          go_wp2
          exact ⟨⟨c + 1, by omega, by go_num, HR.out.outer⟩, by simp [intOf]; omega⟩
    · have hnle : ¬ (c : Int) ≤ (a.size : Int) := by have := HNI.out; omega
      obtain rfl : c = n := by omega
      go_wp2
      go_ret
      exact ⟨rfl, HO.out⟩
end Go.Proofs.YtgokinfejbefjaaDoor
