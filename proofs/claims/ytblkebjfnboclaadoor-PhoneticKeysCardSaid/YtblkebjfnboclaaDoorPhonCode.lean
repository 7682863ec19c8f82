/- Walks of the program's Soundex and Skeleton. -/
import Derived.Test.YtblkebjfnboclaaDoorPhonTok
import Derived.Laws.OwnMore
import Derived.Deep.AppendLies
namespace Go.Proofs.YtblkebjfnboclaaDoor
open Go.RowKit
set_option maxRecDepth 100000

/-- The code and the skeleton of a text. -/
def sxB (s : ByteArray) : ByteArray := if ptokB s = true then bs (PM.code s.data.toList) else ⟨#[]⟩
def skB (s : ByteArray) : ByteArray := if ptokB s = true then bs (PM.skel s.data.toList) else ⟨#[]⟩

theorem byteInfo : (Tryd.prog.info? 5).map (fun i => (i.zero, i.size, i.bytes)) = some (some (.int .u8 0), 1, 1) := by kernel_rfl

/-- A slice of bytes of this call's own. -/
def OwnsB (base : Nat) (w : World) (v : Value) (l : List UInt8) : Prop := w.ownsRow base 5 1 v l.length (l.map fun b => Value.int .u8 (b.toNat : Int))
theorem ownsB_one (w : World) (c : UInt8) : OwnsB w.heap.size (w.alloc (.cells #[.int .u8 (c.toNat : Int)] 5)) (.slice (some ⟨w.heap.size, 0, none⟩) 1 1) [c] :=
  World.ownsRow_lit (e := 5) (base := w.heap.size) (size := 1) w #[.int .u8 (c.toNat : Int)] 1 (Nat.le_refl _) (by decide) rfl
theorem OwnsB.form {base : Nat} {w : World} {v : Value} {l : List UInt8} (h : OwnsB base w v l) (h0 : 0 < l.length) : ∃ g cap, v = .slice (some ⟨g, 0, none⟩) l.length cap ∧ base ≤ g ∧ g < w.heap.size ∧ l.length ≤ cap ∧ cap ≤ maxLen ∧
    ∀ j, ∀ hj : j < l.length, w.cell? ⟨g, j, none⟩ = some (.int .u8 (l[j].toNat : Int)) := by
  rcases h.2 with ⟨-, h1⟩ | ⟨g, cap, cur, hv, hbg, hg, hnc, hcm, hcs, htake⟩
  · omega
  · refine ⟨g, cap, hv, hbg, (Array.getElem?_eq_some_iff.1 hg).1, hnc, hcm, fun j hj => ?_⟩
    have := World.ownsRow.cells h (g := g) (by rw [hv]; rfl) j (.int .u8 (l[j].toNat : Int)) (by rw [List.getElem?_map, List.getElem?_eq_getElem hj]; rfl)
    rw [← this]
    unfold Addr.add
    split <;> simp_all
theorem convB (W : World) (g n cap : Nat) (l : List UInt8) (hn : l.length = n) (h : ∀ j, ∀ hj : j < l.length, W.cell? ⟨g, j, none⟩ = some (.int .u8 (l[j].toNat : Int))) :
    (convert 40 9 (.slice (some ⟨g, 0, none⟩) n cap)).run Tryd.prog W = .ok (.string (bs l)) W := by
  subst hn
  refine run_convert_bytes_back W 40 9 5 ⟨g, 0, none⟩ cap l Tryd.underlying40 Tryd.underlying5 Tryd.underlying9 ?_
  intro j hj
  rw [← h j hj]
  unfold Addr.add
  split <;> simp_all

theorem wrap_num (n : Int) (h0 : 0 ≤ n) (h1 : n < 9223372036854775808) : IntKind.i64.wrap n = n := by
  simp [IntKind.wrap, IntKind.bits, IntKind.signed]
  omega
theorem quiet_same {P : Program} {f : FuncId} {args : Array Value} {w : World} {n : Nat} {v : Value}
    (h : Calls P f args (w.drewN n) fun e w' => e = .returned v ∧ w.drewN n = w') : Calls P f args (w.drewN n) fun e w'' => e = .returned v ∧ ∃ m, w'' = w.drewN m :=
  h.mono fun _ _ ⟨he, hm⟩ => ⟨he, n, hm.symm⟩

theorem OwnsB.last {base : Nat} {w : World} {v : Value} {acc : List UInt8} {p : UInt8} (h : OwnsB base w v (acc ++ [p])) : ∃ g cap, v = .slice (some ⟨g, 0, none⟩) ((acc.length + 1 : Nat) : Nat) cap ∧ base ≤ g ∧ g < w.heap.size ∧ acc.length + 1 ≤ cap ∧ cap ≤ maxLen ∧
    w.cell? ⟨g, acc.length, none⟩ = some (.int .u8 (p.toNat : Int)) ∧ (convert 40 9 (.slice (some ⟨g, 0, none⟩) (acc.length + 1) cap)).run Tryd.prog w = .ok (.string (bs (acc ++ [p]))) w := by
  have hl : (acc ++ [p]).length = acc.length + 1 := by simp
  obtain ⟨g, cap, hv, h1, h2, h3, h4, h5⟩ := h.form (by simp)
  refine ⟨g, cap, hv.trans (by rw [hl]), h1, h2, by omega, h4, ?_, convB w g _ cap _ hl h5⟩
  have := h5 acc.length (by omega)
  simpa using this

theorem sxB_no {s : ByteArray} (h : ptokB s = false) : sxB s = ⟨#[]⟩ := by unfold sxB; rw [h]; rfl
theorem skB_no {s : ByteArray} (h : ptokB s = false) : skB s = ⟨#[]⟩ := by unfold skB; rw [h]; rfl
theorem drop_all (s : ByteArray) (h : 0 < s.size) : s.data.toList = s[0] :: s.data.toList.drop 1 := by
  have := drop_at s 0 h
  simpa using this
/-- What stands of the code in full length. -/
def fullC (s : ByteArray) (h : 0 < s.size) : List UInt8 := s[0] :: PM.run (PM.dig s[0]) (s.data.toList.drop 1)
theorem sxB_yes {s : ByteArray} (h : ptokB s = true) (hp : 0 < s.size) : sxB s = bs ((fullC s hp ++ [48, 48, 48]).take 4) := by
  unfold sxB
  rw [if_pos h]
  congr 1
  conv => lhs; rw [drop_all s hp]
  rfl
def fullS (s : ByteArray) (h : 0 < s.size) : List UInt8 := s[0] :: PM.bones s[0] (s.data.toList.drop 1)
theorem skB_yes {s : ByteArray} (h : ptokB s = true) (hp : 0 < s.size) : skB s = bs ((fullS s hp).take 6) := by
  unfold skB
  rw [if_pos h]
  congr 1
  conv => lhs; rw [drop_all s hp]
  rfl

theorem bs_eq {a : ByteArray} {l : List UInt8} (h : a.data.toList = l) : a = bs l := by rw [← h, bs_list]

/-- A turn of the code. -/
theorem run_at (s : ByteArray) (k last : Nat) (h : k < s.size) : PM.run last (s.data.toList.drop k) = if PM.dig s[k] = 1 then PM.run last (s.data.toList.drop (k + 1)) else if PM.dig s[k] = last then PM.run last (s.data.toList.drop (k + 1))
    else if 1 < PM.dig s[k] then UInt8.ofNat (PM.dig s[k]) :: PM.run (PM.dig s[k]) (s.data.toList.drop (k + 1)) else PM.run (PM.dig s[k]) (s.data.toList.drop (k + 1)) := by
  rw [drop_at s k h, PM.run]
theorem dig_byte {c : UInt8} (h : 1 < PM.dig c) : ((UInt8.ofNat (PM.dig c)).toNat : Int) = (PM.pd (PM.dig c) : Int) := by
  have := PM.pd_cases c
  rw [UInt8.toNat_ofNat']
  omega

set_option maxHeartbeats 4000000 in
theorem Soundex_any (s : ByteArray) (w : World) :
    Calls Tryd.prog 15 #[.string s] w fun e w' => e = .returned (.string (sxB s)) ∧ Below w.heap.size w w' := by
  obtain ⟨i0, hi0, hz0, hz1, hz2⟩ := info_parts byteInfo
  go_enter Tryd.func15, Tryd.ntmps15
  go_wp2_with fail
  refine (isToken_any s w).mono ?_
  rintro e w1 ⟨rfl, b1⟩
  cases hT : ptokB s
  · have E := Lib.hid (sxB_no hT)
    clear hT
    go_wp2
    go_ret
    exact ⟨ret_str E.out.symm, b1⟩
  · obtain ⟨hp, h64⟩ := ptok_pos hT
    have E := Lib.hid (sxB_yes hT hp)
    clear hT
    go_wp2_with fail
    refine (digit_any s[0] _).mono ?_
    rintro e w2 ⟨rfl, rfl⟩
    have HO := Lib.hid (ownsB_one w1 s[0])
    have hs1 := b1.size
    have hb2 : Below w.heap.size w (w1.alloc (.cells #[.int .u8 (s[0].toNat : Int)] 5)) := b1.alloc hs1 _
    generalize hW : w1.alloc (.cells #[.int .u8 (s[0].toNat : Int)] 5) = W at *
    clear hW
    have HF := Lib.hid (show fullC s hp = s[0] :: PM.run (PM.dig s[0]) (s.data.toList.drop 1) from rfl)
    go_wp2
    go_loopw [3, 4, 5] (fun v la i wr => ∃ (k : Nat) (acc : List UInt8) (c : UInt8), 1 ≤ k ∧ k ≤ s.size ∧ i = .int .i64 k ∧ la = .int .u8 (PM.pd (PM.dig c)) ∧ 1 ≤ acc.length ∧ acc.length ≤ k ∧ OwnsB w1.heap.size wr v acc ∧
        acc ++ PM.run (PM.dig c) (s.data.toList.drop k) = fullC s hp ∧ Below w.heap.size w wr) (fun _ _ i _ => s.size - (intOf i).toNat)
    case atStart => exact ⟨1, [s[0]], s[0], by omega, by omega, rfl, rfl, by simp, by simp, HO.out, HF.out.symm, hb2⟩
    case round =>
      obtain ⟨k, acc, c, hk1, hk, rfl, rfl, hl1, hl, hown, hacc, hbw⟩ := hrel
      have HA := Lib.hid hacc
      have HW := Lib.hid hown
      clear hacc hown
      by_cases hlt : k < s.size
      · have HR := Lib.hid (run_at s k (PM.dig c) hlt)
        have hpc := PM.pd_cases c
        have hpx := PM.pd_cases s[k]
        by_cases c1 : PM.dig s[k] = 1
        · have t1 : ((PM.pd (PM.dig s[k]) : Int) == 115) = true := by simp; omega
          have HN := Lib.hid (show acc ++ PM.run (PM.dig c) (s.data.toList.drop (k + 1)) = fullC s hp by rw [← HA.out, HR.out, if_pos c1])
          clear hpc hpx c1
          go_wp2_with (go_at_call 28; refine (digit_any s[k] _).mono ?_; rintro e w3 ⟨rfl, rfl⟩)
          exact ⟨⟨k + 1, acc, c, by omega, by omega, by go_num, rfl, hl1, by omega, HW.out, HN.out, hbw⟩, by simp [intOf]; omega⟩
        · have t1 : ((PM.pd (PM.dig s[k]) : Int) == 115) = false := by simp; omega
          by_cases c2 : PM.dig s[k] = PM.dig c
          · have t2 : ((PM.pd (PM.dig s[k]) : Int) == (PM.pd (PM.dig c) : Int)) = true := by rw [c2]; simp
            have HN := Lib.hid (show acc ++ PM.run (PM.dig c) (s.data.toList.drop (k + 1)) = fullC s hp by rw [← HA.out, HR.out, if_neg c1, if_pos c2])
            clear hpc hpx c1 c2
            go_wp2_with (go_at_call 28; refine (digit_any s[k] _).mono ?_; rintro e w3 ⟨rfl, rfl⟩)
            exact ⟨⟨k + 1, acc, c, by omega, by omega, by go_num, rfl, hl1, by omega, HW.out, HN.out, hbw⟩, by simp [intOf]; omega⟩
          · have t2 : ((PM.pd (PM.dig s[k]) : Int) == (PM.pd (PM.dig c) : Int)) = false := by simp; omega
            by_cases c3 : 1 < PM.dig s[k]
            · have t3 : decide (1 < PM.dig s[k]) = true := by simpa using c3
              have HB := Lib.hid (dig_byte c3)
              have HN := Lib.hid (show (acc ++ [UInt8.ofNat (PM.dig s[k])]) ++ PM.run (PM.dig s[k]) (s.data.toList.drop (k + 1)) = fullC s hp by rw [← HA.out, HR.out, if_neg c1, if_neg c2, if_pos c3]; simp)
              clear hpc hpx c1 c2 c3
              have hsz := hbw.size
              have hw1 : w1.heap.size ≤ wr.heap.size := by
                obtain ⟨g, cap, -, h1, h2, -⟩ := HW.out.form (by omega)
                omega
              go_wp2_with (first
                | (go_at_call 28; refine (digit_any s[k] _).mono ?_; rintro e w3 ⟨rfl, rfl⟩)
                | (go_at_call 29; refine (isDigit_any s[k] _).mono ?_; rintro e w3 ⟨rfl, rfl⟩)
                | (at_builtin; refine wpList_append_own _ rfl _ _ 40 rfl w1.heap.size 5 i0 (.int .u8 0) 1 1 Tryd.underlying40 hi0 hz0 hz1 hz2 rfl (by decide) _ _ _ rfl (HW.out.alloc _) ⟨wr.heap.size, 0, none⟩ 1 1 [.int .u8 (PM.pd (PM.dig s[k]))] rfl rfl ?c1 ?c2 ?c3 ?c4 ?c5 ?_))
              case c1 =>
                intro j u hj
                match j, hj with
                | 0, hj => simp at hj; subst hj; simp [Addr.add]
              case c2 => intro u hu; simp at hu; subst hu; rfl
              case c3 => unfold maxLen; omega
              case c4 => omega
              case c5 => simp; omega
              intro v' w2 hown' hgrow _
              go_wp2
              refine ⟨⟨k + 1, acc ++ [UInt8.ofNat (PM.dig s[k])], s[k], by omega, by omega, by go_num, rfl, by simp, by simp; omega, ?_, HN.out, ?_⟩, by simp [intOf]; omega⟩
              · unfold OwnsB
                rw [List.map_append, List.map_cons, List.map_nil, HB.out]
                simpa using hown'
              · exact (hbw.alloc (by omega) _).grown hgrow (by simp; omega) (fun g hg => Nat.le_trans hs1 (HW.out.lt g hg).1)
            · have t3 : decide (1 < PM.dig s[k]) = false := by simpa using c3
              have HN := Lib.hid (show acc ++ PM.run (PM.dig s[k]) (s.data.toList.drop (k + 1)) = fullC s hp by rw [← HA.out, HR.out, if_neg c1, if_neg c2, if_neg c3])
              clear hpc hpx c1 c2 c3
              go_wp2_with (first
                | (go_at_call 28; refine (digit_any s[k] _).mono ?_; rintro e w3 ⟨rfl, rfl⟩)
                | (go_at_call 29; refine (isDigit_any s[k] _).mono ?_; rintro e w3 ⟨rfl, rfl⟩))
              exact ⟨⟨k + 1, acc, s[k], by omega, by omega, by go_num, rfl, hl1, by omega, HW.out, HN.out, hbw⟩, by simp [intOf]; omega⟩
      · have hge : s.size ≤ k := by omega
        obtain ⟨g, cap, rfl, -, -, hcap, hcm, hcell⟩ := HW.out.form (by omega)
        have hfin := HA.out
        rw [drop_end s k hge, PM.run, List.append_nil] at hfin
        have kc := fun n hn => convB wr g n cap acc hn hcell
        obtain ⟨T, hT⟩ : ∃ T, T = bs acc := ⟨_, rfl⟩
        have hTs : T.size = acc.length := by rw [hT]; rfl
        have hTl : T.data.toList = acc := by rw [hT]; rfl
        rw [← hT] at kc
        have kc := kc _ rfl
        have hT1 : 1 ≤ T.size := by omega
        have hT64 : T.size ≤ 64 := by omega
        have HTl := Lib.hid hTl
        have HFin := Lib.hid hfin
        clear hT hTs hTl hfin hcell hl1 hl
        generalize acc.length = n at *
        go_wp2
        go_ret
        refine ⟨ret_str ?_, hbw⟩
        rw [E.out]
        refine bs_eq ?_
        rw [Lib.extract_data, data_add, HTl.out, HFin.out]
        rfl
end Go.Proofs.YtblkebjfnboclaaDoor
