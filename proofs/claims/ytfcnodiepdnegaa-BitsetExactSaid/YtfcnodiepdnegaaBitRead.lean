/- The reference's Read and Parse. -/
import Derived.Test.YtfcnodiepdnegaaBitText2
namespace Go.Proofs.Ytfcnodiepdnegaa
open Go.RowKit
set_option linter.unusedVariables false
set_option maxRecDepth 100000

def readV (s : List UInt8) : Value := match (if s.length = 16 then BM.readN 0 s else none) with
  | some x => .tuple #[.int .u64 (n64 (UInt64.ofNat x)), .bool true]
  | none => .tuple #[.int .u64 0, .bool false]
theorem dig_none : ∀ c : UInt8, BM.undig c = none → ∀ k, k < 16 → BM.dig k ≠ c := by
  intro c hc k hk e
  rw [← e, BM.undig_dig k hk] at hc
  cases hc
theorem dig_some (c : UInt8) (d : Nat) (h : BM.undig c = some d) : d < 16 ∧ BM.dig d = c ∧ ∀ k, k < d → BM.dig k ≠ c := by
  unfold BM.undig at h
  have hc := c.toNat_lt
  have hd : d < 16 ∧ BM.dig d = c := by
    split at h
    · rename_i h1
      obtain rfl := Option.some.inj h
      refine ⟨by omega, ?_⟩
      unfold BM.dig
      rw [if_pos (by omega)]
      apply UInt8.toNat_inj.1
      rw [UInt8.toNat_ofNat']
      omega
    · split at h
      · rename_i h1 h2
        obtain rfl := Option.some.inj h
        refine ⟨by omega, ?_⟩
        unfold BM.dig
        rw [if_neg (by omega)]
        apply UInt8.toNat_inj.1
        rw [UInt8.toNat_ofNat']
        omega
      · cases h
  refine ⟨hd.1, hd.2, fun k hk e => ?_⟩
  rw [← hd.2] at e
  have := (BM.dig_eq k (by omega) d hd.1).1 e
  omega
theorem readN_take (s : List UInt8) (k : Nat) (hk : k < s.length) (x : Nat) (h : BM.readN 0 (s.take k) = some x) : BM.readN 0 (s.take (k + 1)) = (BM.undig s[k]).map fun d => x * 16 + d := by
  rw [List.take_succ_eq_append_getElem hk, BM.readN_app, h]
  simp only [Option.bind_some, BM.readN]
  cases BM.undig s[k] <;> rfl
theorem readN_none (s : List UInt8) (k : Nat) (h : BM.readN 0 (s.take k) = none) : BM.readN 0 s = none := by
  rw [← List.take_append_drop k s, BM.readN_app, h]
  rfl
theorem n64_read (x d : Nat) (hx : x < 16 ^ 15) (hd : d < 16) : bits .or .u64 (IntKind.u64.wrap (n64 (UInt64.ofNat x) * 16)) (d : Int) = n64 (UInt64.ofNat (x * 16 + d)) := by
  unfold n64
  rw [UInt64.toNat_ofNat', UInt64.toNat_ofNat', Nat.mod_eq_of_lt (by omega), Nat.mod_eq_of_lt (by omega), show ((x : Int) * 16) = ((x * 16 : Nat) : Int) by omega, wrapU, Nat.mod_eq_of_lt (by omega), u64_or_nat _ _ (by omega) (by omega)]
  congr 1
  have := Nat.shiftLeft_add_eq_or_of_lt (i := 4) (b := d) (by omega) x
  rw [Nat.shiftLeft_eq, show (2 : Nat) ^ 4 = 16 from rfl] at this
  omega
theorem digits_get : ∀ k, (hk : k < 16) → (⟨#[48, 49, 50, 51, 52, 53, 54, 55, 56, 57, 97, 98, 99, 100, 101, 102]⟩ : ByteArray)[k]'(by simpa [ByteArray.size] using hk) = BM.dig k := by decide
set_option maxHeartbeats 2000000 in
theorem rRead_any (s : ByteArray) (w : World) (hs : s.size ≤ 16) :
    Calls Try.prog 59 #[.string s] w fun e w' => e = .returned (readV s.data.toList) ∧ Below w.heap.size w w' := by
  have HR := Lib.hid (show readV s.data.toList = (match (if s.data.toList.length = 16 then BM.readN 0 s.data.toList else none) with | some x => .tuple #[.int .u64 (n64 (UInt64.ofNat x)), .bool true] | none => .tuple #[.int .u64 0, .bool false]) from rfl)
  by_cases h16 : s.size = 16
  · have HL := Lib.hid (show s.data.toList.length = 16 by rw [size_list]; exact h16)
    have hsz : (s.size : Int) = 16 := by omega
    go_enter Try.func59, Try.ntmps59
    go_wp2
    go_loopw [4, 5] (fun xv iv wr => ∃ (i x n : Nat), i ≤ 16 ∧ x < 16 ^ i ∧ BM.readN 0 (s.data.toList.take i) = some x ∧ iv = .int .i64 i ∧ xv = .int .u64 (n64 (UInt64.ofNat x)) ∧ wr = w.drewN n) (fun _ iv _ => 16 - (intOf iv).toNat)
    case atStart => exact ⟨0, 0, 0, by omega, by decide, by simp [BM.readN], rfl, rfl, rfl⟩
    case round =>
      obtain ⟨i, x, n, hi, hx, hrd, rfl, rfl, rfl⟩ := hrel
      have HRD := Lib.hid hrd
      have HX := Lib.hid hx
      clear hrd hx
      by_cases hlt : i < 16
      · have t0 : decide ((i : Int) < 16) = true := by simp; omega
        have his : i < s.size := by omega
        have i1 : (i : Int) < 16 := by omega
        have hc : s.data.toList[i]'(by rw [size_list]; exact his) = s[i] := by simp [ByteArray.getElem_eq_getElem_data]
        have HNX := Lib.hid (readN_take s.data.toList i (by rw [size_list]; exact his) x HRD.out)
        rw [hc] at HNX
        have hge : s[i] = s[i] := rfl
        have HNONE := Lib.hid (readN_none s.data.toList (i + 1))
        clear hc hge
        go_wp2_with fail
        go_loopw [6] (fun kv wi => ∃ (k m : Nat), k ≤ 16 ∧ (∀ j, j < k → BM.dig j ≠ s[i]) ∧ kv = .int .i64 k ∧ wi = w.drewN m) (fun kv _ => 16 - (intOf kv).toNat)
        case atStart => exact ⟨0, n, by omega, fun j hj => absurd hj (Nat.not_lt_zero _), rfl, rfl⟩
        case round =>
          obtain ⟨k, m, hk, hall, rfl, rfl⟩ := hrel
          have HALL := Lib.hid hall
          clear hall
          by_cases hk16 : k < 16
          · have k1 : (k : Int) < 16 := by omega
            have hdg := digits_get k hk16
            obtain ⟨z, hz⟩ : ∃ z, z = s[i] := ⟨_, rfl⟩
            have HZ := Lib.hid hz
            have hsz' : (i : Int) < (s.size : Int) := by omega
            have hget : s[i] = z := hz.symm
            clear hz
            generalize hd : BM.dig k = dk at *
            have HD := Lib.hid hd
            clear hd
            by_cases heq : dk = z
            · have hb : ((dk.toNat : Int) != (z.toNat : Int)) = false := by rw [heq]; simp
              go_wp2_with fail
              go_quiet (fail)
              go_wp2_with fail
              have hud : BM.undig s[i] = some k := by rw [← HZ.out, ← heq, ← HD.out, BM.undig_dig k hk16]
              have hnx := HNX.out
              rw [hud] at hnx
              have hx15 : x < 16 ^ 15 := Nat.lt_of_lt_of_le HX.out (Nat.pow_le_pow_right (by decide) (by omega))
              have hpow : (16 : Nat) ^ (i + 1) = 16 ^ i * 16 := Nat.pow_succ 16 i
              have hxi := HX.out
              exact ⟨⟨i + 1, x * 16 + k, _, by omega, by rw [hpow]; omega, hnx, by go_num, by rw [n64_read x k hx15 hk16], rfl⟩, by simp [intOf]; omega⟩
            · have hb : ((dk.toNat : Int) != (z.toNat : Int)) = true := by
                simp only [bne_iff_ne, ne_eq]
                intro e
                exact heq (UInt8.toNat_inj.1 (by omega))
              go_wp2_with fail
              go_quiet (fail)
              go_wp2
              exact ⟨⟨k + 1, _, by omega, fun j hj => by
                by_cases e : j = k
                · subst e
                  rw [HD.out, ← HZ.out]
                  exact heq
                · exact HALL.out j (by omega), by go_num, rfl⟩, by simp [intOf]; omega⟩
          · obtain rfl : k = 16 := by omega
            have hud : BM.undig s[i] = none := by
              cases hu : BM.undig s[i] with
              | none => rfl
              | some d =>
                obtain ⟨h1, h2, -⟩ := dig_some _ _ hu
                exact absurd h2 (HALL.out d h1)
            have hnx := HNX.out
            rw [hud] at hnx
            have HV := Lib.hid (show readV s.data.toList = .tuple #[.int .u64 0, .bool false] by
              rw [HR.out, if_pos HL.out, HNONE.out hnx])
            clear hud hnx
            go_wp2_with fail
            go_quiet (fail)
            go_wp2
            go_ret2
            exact ⟨by rw [HV.out]; rfl, below_drewN (Below.refl _ _) _⟩
      · obtain rfl : i = 16 := by omega
        have hfull : s.data.toList.take 16 = s.data.toList := List.take_of_length_le (by rw [HL.out]; exact Nat.le_refl _)
        have HV := Lib.hid (show readV s.data.toList = .tuple #[.int .u64 (n64 (UInt64.ofNat x)), .bool true] by
          have := HRD.out
          rw [hfull] at this
          rw [HR.out, if_pos HL.out, this])
        clear hfull
        go_wp2
        go_ret2
        exact ⟨by rw [HV.out]; rfl, below_drewN (Below.refl _ _) _⟩
  · have HN := Lib.hid (show readV s.data.toList = .tuple #[.int .u64 0, .bool false] by
      rw [HR.out, if_neg (by rw [size_list]; exact h16)])
    go_enter Try.func59, Try.ntmps59
    go_wp2
    go_ret2
    exact ⟨by rw [HN.out]; rfl, Below.refl _ _⟩
end Go.Proofs.Ytfcnodiepdnegaa
