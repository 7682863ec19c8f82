/- Walks of the program's through: the length of a way that ends with one of the five steps. -/
import Derived.Test.YtgokinfejbefjaaDoorDistChs
import Derived.Test.YtgokinfejbefjaaDoorDistCand
namespace Go.Proofs.YtgokinfejbefjaaDoor
open Go.RowKit
set_option maxRecDepth 100000

/-- A step as a value: its kind, how many bytes of the old text it leads past, how many of the new one. -/
def stepV : Nat → Value
  | 0 => .agg #[.int .i64 0, .int .i64 1, .int .i64 1]
  | 1 => .agg #[.int .i64 3, .int .i64 1, .int .i64 1]
  | 2 => .agg #[.int .i64 2, .int .i64 1, .int .i64 0]
  | 3 => .agg #[.int .i64 1, .int .i64 0, .int .i64 1]
  | _ => .agg #[.int .i64 4, .int .i64 2, .int .i64 2]
/-- A comparison as a value: both texts, the table in block T. -/
def cmpV (a b : ByteArray) (T : Nat) : Value := .agg #[.string a, .string b, .slice (some ⟨T, 0, none⟩) (a.size + 1) (a.size + 1)]
/-- The table's number at i, j stands. -/
def KnownAt (w : World) (a b : ByteArray) (T i j : Nat) : Prop :=
  ∃ R, w.cell? ⟨T, i, none⟩ = some (.slice (some ⟨R, 0, none⟩) (b.size + 1) (b.size + 1)) ∧ w.cell? ⟨R, j, none⟩ = some (.int .i64 (tabN a b i j : Int))
theorem KnownAt.below {w w' : World} {a b : ByteArray} {T i j : Nat} (h : KnownAt w a b T i j) (hb : Below w.heap.size w w') : KnownAt w' a b T i j := by
  obtain ⟨R, h1, h2⟩ := h
  exact ⟨R, (hb.cell (p := ⟨T, i, none⟩) (World.block_lt_of_cell? _ _ h1)).trans h1, (hb.cell (p := ⟨R, j, none⟩) (World.block_lt_of_cell? _ _ h2)).trans h2⟩
def cnd (a b : ByteArray) (s i j : Nat) : Option Nat := DM.cand a.data.toList b.data.toList s i j
/-- What through returns. -/
def ThrOk (a b : ByteArray) (s i j : Nat) (e : Ending) : Prop := ∃ (v : Nat) (ok : Bool), e = .returned (.tuple #[.int .i64 (v : Int), .bool ok]) ∧ v ≤ 65 ∧ ((ok = true ∧ cnd a b s i j = some v) ∨ (ok = false ∧ cnd a b s i j = none))

theorem two_new (w : World) (u u' : Obj) : Below w.heap.size w ((w.alloc u).alloc u') := ((Below.refl _ w).alloc (Nat.le_refl _) _).alloc (by simp) _
theorem byte_at (a : ByteArray) (i : Nat) (h : i < a.size) : a.data.toList[i]? = some a[i] := by
  rw [List.getElem?_eq_getElem (by simpa using h)]; rfl

set_option maxHeartbeats 4000000 in
theorem thr0 (a b : ByteArray) (T i j : Nat) (w : World) (ha : a.size ≤ 64) (hb : b.size ≤ 64) (hi : i ≤ a.size) (hj : j ≤ b.size) (hK : 1 ≤ i → 1 ≤ j → KnownAt w a b T (i - 1) (j - 1)) :
    Calls Tryd.prog 42 #[cmpV a b T, stepV 0, .int .i64 i, .int .i64 j] w fun e w' => ThrOk a b 0 i j e ∧ Below w.heap.size w w' := by
  unfold cmpV stepV
  by_cases h1 : 1 ≤ i
  · obtain ⟨i, rfl⟩ : ∃ i', i = i' + 1 := ⟨i - 1, by omega⟩
    by_cases h2 : 1 ≤ j
    · obtain ⟨j, rfl⟩ : ∃ j', j = j' + 1 := ⟨j - 1, by omega⟩
      obtain ⟨R, k1, k2⟩ := hK h1 h2
      simp only [Nat.add_sub_cancel] at k1 k2
      have z1 : tabN a b i j ≤ 64 := tabN_le a b i j ha hb
      have HC := Lib.hid (show cnd a b 0 (i + 1) (j + 1) = if a[i] = b[j] then some (tabN a b i j) else none by
        unfold cnd DM.cand
        simp only [Nat.add_sub_cancel, byte_at a i (by omega), byte_at b j (by omega), Option.some.injEq]
        by_cases he : a[i] = b[j]
        · rw [if_pos ⟨by omega, by omega, he⟩, if_pos he]; rfl
        · rw [if_neg (fun h => he h.2.2), if_neg he])
      generalize tabN a b i j = X at *
      have p1 := fun (u u' : Obj) => cell_two (u := u) (u' := u') k1
      have p2 := fun (u u' : Obj) => cell_two (u := u) (u' := u') k2
      have w1 : IntKind.i64.wrap (i : Int) = (i : Int) := wrap_num _ (by omega) (by omega)
      have w2 : IntKind.i64.wrap (j : Int) = (j : Int) := wrap_num _ (by omega) (by omega)
      have q1 : ¬ ((i : Int) + 1 < 1) := by omega
      have q2 : ¬ ((j : Int) + 1 < 1) := by omega
      have q3 : (i : Int) < (a.size : Int) + 1 := by omega
      have q4 : (j : Int) < (b.size : Int) + 1 := by omega
      have q5 : (i : Int) < (a.size : Int) := by omega
      have q6 : (j : Int) < (b.size : Int) := by omega
      clear hK k1 k2 h1 h2
      by_cases he : a[i] = b[j]
      · have t3 : ((a[i].toNat : Int) == (b[j].toNat : Int)) = true := by rw [he]; simp
        rw [if_pos he] at HC
        clear he
        go_enter Tryd.func42, Tryd.ntmps42
        go_wp2_with fail
        go_quiet (fail)
        go_wp2_with fail
        go_quiet (fail)
        go_wp2
        go_ret2
        exact ⟨⟨X, true, rfl, by omega, .inl ⟨rfl, HC.out⟩⟩, below_drewN (below_drewN (two_new w _ _) _) _⟩
      · have t3 : ((a[i].toNat : Int) == (b[j].toNat : Int)) = false := by simp; intro h; exact he (UInt8.toNat_inj.1 (by omega))
        rw [if_neg he] at HC
        clear he
        go_enter Tryd.func42, Tryd.ntmps42
        go_wp2_with fail
        go_quiet (fail)
        go_wp2_with fail
        go_quiet (fail)
        go_wp2
        go_ret2
        exact ⟨⟨X, false, rfl, by omega, .inr ⟨rfl, HC.out⟩⟩, below_drewN (below_drewN (two_new w _ _) _) _⟩
    · obtain rfl : j = 0 := by omega
      have HC := Lib.hid (show cnd a b 0 (i + 1) 0 = none by unfold cnd DM.cand; simp only; rw [if_neg (by omega)])
      have q1 : ¬ ((i : Int) + 1 < 1) := by omega
      clear hK h1 h2
      go_enter Tryd.func42, Tryd.ntmps42
      go_wp2
      go_ret2
      exact ⟨⟨0, false, rfl, by omega, .inr ⟨rfl, HC.out⟩⟩, two_new w _ _⟩
  · obtain rfl : i = 0 := by omega
    have HC := Lib.hid (show cnd a b 0 0 j = none by unfold cnd DM.cand; simp only; rw [if_neg (by omega)])
    clear hK h1
    go_enter Tryd.func42, Tryd.ntmps42
    go_wp2
    go_ret2
    exact ⟨⟨0, false, rfl, by omega, .inr ⟨rfl, HC.out⟩⟩, two_new w _ _⟩

set_option maxHeartbeats 4000000 in
theorem thr1 (a b : ByteArray) (T i j : Nat) (w : World) (ha : a.size ≤ 64) (hb : b.size ≤ 64) (hi : i ≤ a.size) (hj : j ≤ b.size) (hK : 1 ≤ i → 1 ≤ j → KnownAt w a b T (i - 1) (j - 1)) :
    Calls Tryd.prog 42 #[cmpV a b T, stepV 1, .int .i64 i, .int .i64 j] w fun e w' => ThrOk a b 1 i j e ∧ Below w.heap.size w w' := by
  unfold cmpV stepV
  by_cases h1 : 1 ≤ i
  · obtain ⟨i, rfl⟩ : ∃ i', i = i' + 1 := ⟨i - 1, by omega⟩
    by_cases h2 : 1 ≤ j
    · obtain ⟨j, rfl⟩ : ∃ j', j = j' + 1 := ⟨j - 1, by omega⟩
      obtain ⟨R, k1, k2⟩ := hK h1 h2
      simp only [Nat.add_sub_cancel] at k1 k2
      have z1 : tabN a b i j ≤ 64 := tabN_le a b i j ha hb
      have HC := Lib.hid (show cnd a b 1 (i + 1) (j + 1) = some (tabN a b i j + 1) by
        unfold cnd DM.cand
        simp only [Nat.add_sub_cancel]
        rw [if_pos ⟨h1, h2⟩]
        rfl)
      generalize tabN a b i j = X at *
      have p1 := fun (u u' : Obj) => cell_two (u := u) (u' := u') k1
      have p2 := fun (u u' : Obj) => cell_two (u := u) (u' := u') k2
      have w1 : IntKind.i64.wrap (i : Int) = (i : Int) := wrap_num _ (by omega) (by omega)
      have w2 : IntKind.i64.wrap (j : Int) = (j : Int) := wrap_num _ (by omega) (by omega)
      have q1 : ¬ ((i : Int) + 1 < 1) := by omega
      have q2 : ¬ ((j : Int) + 1 < 1) := by omega
      have q3 : (i : Int) < (a.size : Int) + 1 := by omega
      have q4 : (j : Int) < (b.size : Int) + 1 := by omega
      clear hK k1 k2 h1 h2
      go_enter Tryd.func42, Tryd.ntmps42
      go_wp2_with fail
      go_quiet (fail)
      go_wp2
      go_ret2
      exact ⟨⟨X + 1, true, rfl, by omega, .inl ⟨rfl, HC.out⟩⟩, below_drewN (two_new w _ _) _⟩
    · obtain rfl : j = 0 := by omega
      have q1 : ¬ ((i : Int) + 1 < 1) := by omega
      have HC := Lib.hid (show cnd a b 1 (i + 1) 0 = none by unfold cnd DM.cand; simp only; rw [if_neg (by omega)])
      clear hK h1 h2
      go_enter Tryd.func42, Tryd.ntmps42
      go_wp2
      go_ret2
      exact ⟨⟨0, false, rfl, by omega, .inr ⟨rfl, HC.out⟩⟩, two_new w _ _⟩
  · obtain rfl : i = 0 := by omega
    have HC := Lib.hid (show cnd a b 1 0 j = none by unfold cnd DM.cand; simp only; rw [if_neg (by omega)])
    clear hK h1
    go_enter Tryd.func42, Tryd.ntmps42
    go_wp2
    go_ret2
    exact ⟨⟨0, false, rfl, by omega, .inr ⟨rfl, HC.out⟩⟩, two_new w _ _⟩

set_option maxHeartbeats 4000000 in
theorem thr2 (a b : ByteArray) (T i j : Nat) (w : World) (ha : a.size ≤ 64) (hb : b.size ≤ 64) (hi : i ≤ a.size) (hj : j ≤ b.size) (hK : 1 ≤ i → KnownAt w a b T (i - 1) j) :
    Calls Tryd.prog 42 #[cmpV a b T, stepV 2, .int .i64 i, .int .i64 j] w fun e w' => ThrOk a b 2 i j e ∧ Below w.heap.size w w' := by
  unfold cmpV stepV
  by_cases h1 : 1 ≤ i
  · obtain ⟨i, rfl⟩ : ∃ i', i = i' + 1 := ⟨i - 1, by omega⟩
    obtain ⟨R, k1, k2⟩ := hK h1
    simp only [Nat.add_sub_cancel] at k1 k2
    have z1 : tabN a b i j ≤ 64 := tabN_le a b i j ha hb
    have HC := Lib.hid (show cnd a b 2 (i + 1) j = some (tabN a b i j + 1) by
      unfold cnd DM.cand
      simp only [Nat.add_sub_cancel]
      rw [if_pos h1]
      rfl)
    generalize tabN a b i j = X at *
    have p1 := fun (u u' : Obj) => cell_two (u := u) (u' := u') k1
    have p2 := fun (u u' : Obj) => cell_two (u := u) (u' := u') k2
    have w1 : IntKind.i64.wrap (i : Int) = (i : Int) := wrap_num _ (by omega) (by omega)
    have w2 : IntKind.i64.wrap (j : Int) = (j : Int) := wrap_num _ (by omega) (by omega)
    have q1 : ¬ ((i : Int) + 1 < 1) := by omega
    have q2 : ¬ ((j : Int) < 0) := by omega
    have q3 : (i : Int) < (a.size : Int) + 1 := by omega
    have q4 : (j : Int) < (b.size : Int) + 1 := by omega
    clear hK k1 k2 h1
    go_enter Tryd.func42, Tryd.ntmps42
    go_wp2_with fail
    go_quiet (fail)
    go_wp2
    go_ret2
    exact ⟨⟨X + 1, true, rfl, by omega, .inl ⟨rfl, HC.out⟩⟩, below_drewN (two_new w _ _) _⟩
  · obtain rfl : i = 0 := by omega
    have HC := Lib.hid (show cnd a b 2 0 j = none by unfold cnd DM.cand; simp only; rw [if_neg (by omega)])
    clear hK h1
    go_enter Tryd.func42, Tryd.ntmps42
    go_wp2
    go_ret2
    exact ⟨⟨0, false, rfl, by omega, .inr ⟨rfl, HC.out⟩⟩, two_new w _ _⟩

set_option maxHeartbeats 4000000 in
theorem thr3 (a b : ByteArray) (T i j : Nat) (w : World) (ha : a.size ≤ 64) (hb : b.size ≤ 64) (hi : i ≤ a.size) (hj : j ≤ b.size) (hK : 1 ≤ j → KnownAt w a b T i (j - 1)) :
    Calls Tryd.prog 42 #[cmpV a b T, stepV 3, .int .i64 i, .int .i64 j] w fun e w' => ThrOk a b 3 i j e ∧ Below w.heap.size w w' := by
  unfold cmpV stepV
  by_cases h1 : 1 ≤ j
  · obtain ⟨j, rfl⟩ : ∃ j', j = j' + 1 := ⟨j - 1, by omega⟩
    obtain ⟨R, k1, k2⟩ := hK h1
    simp only [Nat.add_sub_cancel] at k1 k2
    have z1 : tabN a b i j ≤ 64 := tabN_le a b i j ha hb
    have HC := Lib.hid (show cnd a b 3 i (j + 1) = some (tabN a b i j + 1) by
      unfold cnd DM.cand
      simp only [Nat.add_sub_cancel]
      rw [if_pos h1]
      rfl)
    generalize tabN a b i j = X at *
    have p1 := fun (u u' : Obj) => cell_two (u := u) (u' := u') k1
    have p2 := fun (u u' : Obj) => cell_two (u := u) (u' := u') k2
    have w1 : IntKind.i64.wrap (i : Int) = (i : Int) := wrap_num _ (by omega) (by omega)
    have w2 : IntKind.i64.wrap (j : Int) = (j : Int) := wrap_num _ (by omega) (by omega)
    have q1 : ¬ ((j : Int) + 1 < 1) := by omega
    have q2 : ¬ ((i : Int) < 0) := by omega
    have q3 : (i : Int) < (a.size : Int) + 1 := by omega
    have q4 : (j : Int) < (b.size : Int) + 1 := by omega
    clear hK k1 k2 h1
    go_enter Tryd.func42, Tryd.ntmps42
    go_wp2_with fail
    go_quiet (fail)
    go_wp2
    go_ret2
    exact ⟨⟨X + 1, true, rfl, by omega, .inl ⟨rfl, HC.out⟩⟩, below_drewN (two_new w _ _) _⟩
  · obtain rfl : j = 0 := by omega
    have q2 : ¬ ((i : Int) < 0) := by omega
    have HC := Lib.hid (show cnd a b 3 i 0 = none by unfold cnd DM.cand; simp only; rw [if_neg (by omega)])
    clear hK h1
    go_enter Tryd.func42, Tryd.ntmps42
    go_wp2
    go_ret2
    exact ⟨⟨0, false, rfl, by omega, .inr ⟨rfl, HC.out⟩⟩, two_new w _ _⟩

set_option maxHeartbeats 4000000 in
theorem thr4 (a b : ByteArray) (T i j : Nat) (w : World) (ha : a.size ≤ 64) (hb : b.size ≤ 64) (hi : i ≤ a.size) (hj : j ≤ b.size) (hK : 2 ≤ i → 2 ≤ j → KnownAt w a b T (i - 2) (j - 2)) :
    Calls Tryd.prog 42 #[cmpV a b T, stepV 4, .int .i64 i, .int .i64 j] w fun e w' => ThrOk a b 4 i j e ∧ Below w.heap.size w w' := by
  unfold cmpV stepV
  by_cases h1 : 2 ≤ i
  · obtain ⟨i, rfl⟩ : ∃ i', i = i' + 1 + 1 := ⟨i - 2, by omega⟩
    by_cases h2 : 2 ≤ j
    · obtain ⟨j, rfl⟩ : ∃ j', j = j' + 1 + 1 := ⟨j - 2, by omega⟩
      obtain ⟨R, k1, k2⟩ := hK h1 h2
      simp only [show i + 1 + 1 - 2 = i from by omega, show j + 1 + 1 - 2 = j from by omega] at k1 k2
      have z1 : tabN a b i j ≤ 64 := tabN_le a b i j ha hb
      have HC := Lib.hid (show cnd a b 4 (i + 1 + 1) (j + 1 + 1) = if a[i] = b[j + 1] ∧ a[i + 1] = b[j] then some (tabN a b i j + 1) else none by
        unfold cnd DM.cand
        simp only [show i + 1 + 1 - 2 = i from by omega, show j + 1 + 1 - 2 = j from by omega, Nat.add_sub_cancel, byte_at a i (by omega), byte_at b j (by omega), byte_at a (i + 1) (by omega), byte_at b (j + 1) (by omega), Option.some.injEq]
        by_cases he : a[i] = b[j + 1] ∧ a[i + 1] = b[j]
        · rw [if_pos ⟨h1, h2, he⟩, if_pos he]; rfl
        · rw [if_neg (fun h => he h.2.2), if_neg he])
      generalize tabN a b i j = X at *
      have p1 := fun (u u' : Obj) => cell_two (u := u) (u' := u') k1
      have p2 := fun (u u' : Obj) => cell_two (u := u) (u' := u') k2
      have w1 : IntKind.i64.wrap (i : Int) = (i : Int) := wrap_num _ (by omega) (by omega)
      have w2 : IntKind.i64.wrap (j : Int) = (j : Int) := wrap_num _ (by omega) (by omega)
      have w3 : IntKind.i64.wrap ((i : Int) + 1) = (i : Int) + 1 := wrap_num _ (by omega) (by omega)
      have w4 : IntKind.i64.wrap ((j : Int) + 1) = (j : Int) + 1 := wrap_num _ (by omega) (by omega)
      have v1 : (i : Int) + 1 + 1 - 2 = (i : Int) := by omega
      have v2 : (j : Int) + 1 + 1 - 2 = (j : Int) := by omega
      have q1 : ¬ ((i : Int) + 1 + 1 < 2) := by omega
      have q2 : ¬ ((j : Int) + 1 + 1 < 2) := by omega
      have q3 : (i : Int) < (a.size : Int) + 1 := by omega
      have q4 : (j : Int) < (b.size : Int) + 1 := by omega
      have q5 : (i : Int) < (a.size : Int) := by omega
      have q6 : (j : Int) < (b.size : Int) := by omega
      have q7 : (i : Int) + 1 < (a.size : Int) := by omega
      have q8 : (j : Int) + 1 < (b.size : Int) := by omega
      have r1 : (0 : Int) ≤ (i : Int) + 1 := by omega
      have r2 : (0 : Int) ≤ (j : Int) + 1 := by omega
      have r3 : (0 : Int) ≤ (i : Int) := by omega
      have r4 : (0 : Int) ≤ (j : Int) := by omega
      clear hK k1 k2 h1 h2
      by_cases h5 : a[i] = b[j + 1]
      · have t5 : ((a[i].toNat : Int) == (b[j + 1].toNat : Int)) = true := by rw [h5]; simp
        by_cases h6 : a[i + 1] = b[j]
        · have t6 : ((a[i + 1].toNat : Int) == (b[j].toNat : Int)) = true := by rw [h6]; simp
          rw [if_pos ⟨h5, h6⟩] at HC
          clear h5 h6
          go_enter Tryd.func42, Tryd.ntmps42
          go_wp2_with fail
          go_quiet (fail)
          go_wp2_with fail
          go_quiet (fail)
          go_wp2
          go_ret2
          exact ⟨⟨X + 1, true, rfl, by omega, .inl ⟨rfl, HC.out⟩⟩, below_drewN (below_drewN (two_new w _ _) _) _⟩
        · have t6 : ((a[i + 1].toNat : Int) == (b[j].toNat : Int)) = false := by simp; intro h; exact h6 (UInt8.toNat_inj.1 (by omega))
          rw [if_neg (fun h => h6 h.2)] at HC
          clear h5 h6
          go_enter Tryd.func42, Tryd.ntmps42
          go_wp2_with fail
          go_quiet (fail)
          go_wp2_with fail
          go_quiet (fail)
          go_wp2
          go_ret2
          exact ⟨⟨X + 1, false, rfl, by omega, .inr ⟨rfl, HC.out⟩⟩, below_drewN (below_drewN (two_new w _ _) _) _⟩
      · have t5 : ((a[i].toNat : Int) == (b[j + 1].toNat : Int)) = false := by simp; intro h; exact h5 (UInt8.toNat_inj.1 (by omega))
        rw [if_neg (fun h => h5 h.1)] at HC
        clear h5
        go_enter Tryd.func42, Tryd.ntmps42
        go_wp2_with fail
        go_quiet (fail)
        go_wp2_with fail
        go_quiet (fail)
        go_wp2
        go_ret2
        exact ⟨⟨X + 1, false, rfl, by omega, .inr ⟨rfl, HC.out⟩⟩, below_drewN (below_drewN (two_new w _ _) _) _⟩
    · have q1 : ¬ ((i : Int) + 1 + 1 < 2) := by omega
      have q2 : (j : Int) < 2 := by omega
      have HC := Lib.hid (show cnd a b 4 (i + 1 + 1) j = none by unfold cnd DM.cand; simp only; rw [if_neg (by omega)])
      clear hK h1 h2
      go_enter Tryd.func42, Tryd.ntmps42
      go_wp2
      go_ret2
      exact ⟨⟨0, false, rfl, by omega, .inr ⟨rfl, HC.out⟩⟩, two_new w _ _⟩
  · have q1 : (i : Int) < 2 := by omega
    have HC := Lib.hid (show cnd a b 4 i j = none by unfold cnd DM.cand; simp only; rw [if_neg (by omega)])
    clear hK h1
    go_enter Tryd.func42, Tryd.ntmps42
    go_wp2
    go_ret2
    exact ⟨⟨0, false, rfl, by omega, .inr ⟨rfl, HC.out⟩⟩, two_new w _ _⟩

theorem thr_any (a b : ByteArray) (T i j s : Nat) (w : World) (ha : a.size ≤ 64) (hb : b.size ≤ 64) (hi : i ≤ a.size) (hj : j ≤ b.size) (hs : s < 5) (hK : ∀ i' j', i' ≤ i → j' ≤ j → i' + j' < i + j → KnownAt w a b T i' j') :
    Calls Tryd.prog 42 #[cmpV a b T, stepV s, .int .i64 i, .int .i64 j] w fun e w' => ThrOk a b s i j e ∧ Below w.heap.size w w' := by
  match s, hs with
  | 0, _ => exact thr0 a b T i j w ha hb hi hj fun h1 h2 => hK _ _ (by omega) (by omega) (by omega)
  | 1, _ => exact thr1 a b T i j w ha hb hi hj fun h1 h2 => hK _ _ (by omega) (by omega) (by omega)
  | 2, _ => exact thr2 a b T i j w ha hb hi hj fun h1 => hK _ _ (by omega) (by omega) (by omega)
  | 3, _ => exact thr3 a b T i j w ha hb hi hj fun h1 => hK _ _ (by omega) (by omega) (by omega)
  | 4, _ => exact thr4 a b T i j w ha hb hi hj fun h1 h2 => hK _ _ (by omega) (by omega) (by omega)
end Go.Proofs.YtgokinfejbefjaaDoor
