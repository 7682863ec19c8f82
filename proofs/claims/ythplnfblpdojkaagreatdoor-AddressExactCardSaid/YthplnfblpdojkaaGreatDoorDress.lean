/- The walk of Dress; a new deck; short lists. -/
import Derived.Test.YthplnfblpdojkaaGreatDoorDeckText
import Derived.Test.YthplnfblpdojkaaGreatDoorDressMath
namespace Go.Proofs.YthplnfblpdojkaaGreatDoor
open Go.RowKit
set_option maxRecDepth 100000

def preD : List ByteArray := [⟨#[]⟩, ⟨#[]⟩, ⟨#[32]⟩, ⟨#[45]⟩]
def sepD : List ByteArray := [⟨#[32]⟩, ⟨#[45]⟩, ⟨#[44, 32]⟩, ⟨#[46]⟩, ⟨#[32, 32]⟩, ⟨#[47]⟩]
def postD : List ByteArray := [⟨#[]⟩, ⟨#[]⟩, ⟨#[32]⟩, ⟨#[46]⟩]
theorem preD_is : ∀ s ∈ preD, s.size ≤ 1 ∧ (s.data.toList = [] ∨ s.data.toList = [32] ∨ s.data.toList = [45]) := by decide
theorem sepD_is : ∀ s ∈ sepD, s.size ≤ 2 ∧ (s.data.toList = [32] ∨ s.data.toList = [45] ∨ s.data.toList = [44, 32] ∨ s.data.toList = [46] ∨ s.data.toList = [32, 32] ∨ s.data.toList = [47]) := by decide
theorem postD_is : ∀ s ∈ postD, s.size ≤ 1 ∧ (s.data.toList = [] ∨ s.data.toList = [32] ∨ s.data.toList = [46]) := by decide

/-- r is a dressed s. -/
def Dressed (s r : List UInt8) : Prop := ∃ pre body post, r = pre ++ body ++ post ∧ (pre = [] ∨ pre = [32] ∨ pre = [45]) ∧ (post = [] ∨ post = [32] ∨ post = [46]) ∧ TM.drs s body

/-- What has been written at place k. -/
def Half (s pre o : List UInt8) (k : Nat) : Prop := ∃ body, o = pre ++ body ∧ ∀ r, TM.drs (s.drop k) r → TM.drs s (body ++ r)

theorem Half.char {s : ByteArray} {pre : List UInt8} {o : ByteArray} {k : Nat} (h : Half s.data.toList pre o.data.toList k) (hk : k < s.size) (h32 : ¬ (s[k].toNat : Int) = 32) (c' : UInt8) (hc : c' = s[k] ∨ (TM.lower s[k] = true ∧ c'.toNat + 32 = s[k].toNat)) :
    Half s.data.toList pre (o ++ ⟨#[c']⟩ : ByteArray).data.toList (k + 1) ∧ Half s.data.toList pre (o ++ ⟨#[c']⟩ ++ ⟨#[39]⟩ : ByteArray).data.toList (k + 1) := by
  obtain ⟨body, ho, hb⟩ := h
  refine ⟨⟨body ++ [c'], ?_, fun r hr => ?_⟩, ⟨body ++ [c', 39], ?_, fun r hr => ?_⟩⟩
  · rw [data_add, ho]; simp
  · rw [List.append_assoc]
    refine hb _ ?_
    rw [drop_at s k hk]
    exact TM.drs_char (q := []) (by omega) hc (.inl rfl) hr
  · rw [data_add, data_add, ho]; simp
  · rw [List.append_assoc]
    refine hb _ ?_
    rw [drop_at s k hk]
    exact TM.drs_char (q := [39]) (by omega) hc (.inr rfl) hr
theorem Half.space {s : ByteArray} {pre : List UInt8} {o : ByteArray} {k : Nat} (h : Half s.data.toList pre o.data.toList k) (hk : k < s.size) (h32 : (s[k].toNat : Int) = 32) (sp : ByteArray)
    (hs : sp.data.toList = [32] ∨ sp.data.toList = [45] ∨ sp.data.toList = [44, 32] ∨ sp.data.toList = [46] ∨ sp.data.toList = [32, 32] ∨ sp.data.toList = [47]) : Half s.data.toList pre (o ++ sp).data.toList (k + 1) := by
  obtain ⟨body, ho, hb⟩ := h
  refine ⟨body ++ sp.data.toList, ?_, fun r hr => ?_⟩
  · rw [data_add, ho]; simp
  · rw [List.append_assoc]
    refine hb _ ?_
    rw [drop_at s k hk]
    exact TM.drs_space (by omega) hs hr

set_option maxHeartbeats 4000000 in
theorem Dress_any (g : Nat) (w : World) (h : Deck g w) (s : ByteArray) (hs : s.size ≤ 1000) :
    Calls Tryz.prog 29 #[.pointer (some ⟨g, 0, none⟩), .string s] w fun e w' => ∃ r, e = .returned (.string r) ∧ r.size ≤ 2 * s.size + 2 ∧ Dressed s.data.toList r.data.toList ∧ Deck g w' ∧ w.grownBy w' (some g) := by
  have HD := Lib.hid h
  clear h
  go_enter Tryz.func29, Tryz.ntmps29
  go_wp2_with fail
  refine (Pick_lit g w preD HD.out (by decide) (by decide)).mono ?_
  rintro e w1 ⟨pr, hpr, rfl, hd1, hg1⟩
  obtain ⟨zp, hpr⟩ := preD_is pr hpr
  have HP := Lib.hid hpr
  clear hpr
  go_wp2
  go_loopw [5, 6] (fun o i wr => ∃ (k : Nat) (so : ByteArray), k ≤ s.size ∧ so.size ≤ 2 * k + 1 ∧ i = .int .i64 k ∧ o = .string so ∧ Half s.data.toList pr.data.toList so.data.toList k ∧ Deck g wr ∧ w.grownBy wr (some g)) (fun _ i _ => s.size - (intOf i).toNat)
  case atStart => exact ⟨0, pr, by omega, by omega, rfl, rfl, ⟨[], by simp, fun r hr => hr⟩, hd1, hg1⟩
  case round =>
    obtain ⟨k, so, hk, hz, rfl, rfl, hh, hd, hg⟩ := hrel
    have HH := Lib.hid hh
    clear hh
    by_cases hlt : k < s.size
    · by_cases h32 : (s[k].toNat : Int) = 32
      · have t32 : ((s[k].toNat : Int) == 32) = true := by simp [h32]
        have H32 := Lib.hid h32
        clear h32
        go_wp2_with fail
        refine (Pick_lit g wr sepD hd (by decide) (by decide)).mono ?_
        rintro e w2 ⟨sp, hsp, rfl, hd2, hg2⟩
        obtain ⟨z1, hsp⟩ := sepD_is sp hsp
        have HSp := Lib.hid hsp
        clear hsp
        go_wp2
        refine ⟨⟨k + 1, _, by omega, ?_, by go_num, rfl, HH.out.space hlt H32.out sp HSp.out, hd2, grown_trans hg hg2⟩, by simp [intOf]; omega⟩
        rw [size_add]; omega
      · have t32 : ((s[k].toNat : Int) == 32) = false := by simp; omega
        have H32 := Lib.hid h32
        clear h32
        have leaf : ∀ (c' : UInt8) (W W' : World), c' = s[k] ∨ (TM.lower s[k] = true ∧ c'.toNat + 32 = s[k].toNat) → Deck g W' → w.grownBy W' (some g) →
            (∃ (k' : Nat) (so' : ByteArray), k' ≤ s.size ∧ so'.size ≤ 2 * k' + 1 ∧ Value.int .i64 ((k : Int) + 1) = .int .i64 k' ∧ Value.string (so ++ ⟨#[c']⟩) = .string so' ∧ Half s.data.toList pr.data.toList so'.data.toList k' ∧ Deck g W' ∧ w.grownBy W' (some g)) ∧
            (∃ (k' : Nat) (so' : ByteArray), k' ≤ s.size ∧ so'.size ≤ 2 * k' + 1 ∧ Value.int .i64 ((k : Int) + 1) = .int .i64 k' ∧ Value.string (so ++ ⟨#[c']⟩ ++ ⟨#[39]⟩) = .string so' ∧ Half s.data.toList pr.data.toList so'.data.toList k' ∧ Deck g W' ∧ w.grownBy W' (some g)) := by
          intro c' W W' hc hD hG
          obtain ⟨q1, q2⟩ := HH.out.char hlt H32.out c' hc
          refine ⟨⟨k + 1, _, by omega, ?_, by go_num, rfl, q1, hD, hG⟩, ⟨k + 1, _, by omega, ?_, by go_num, rfl, q2, hD, hG⟩⟩
          · rw [size_add]; show _ + 1 ≤ _; omega
          · rw [size_add, size_add]; show _ + 1 + 1 ≤ _; omega
        have LEAF := Lib.hid leaf
        clear leaf
        have k1 : ∀ W : World, _ := fun W => conv1 W s[k] (s[k].toNat : Int) rfl
        have hb8 := s[k].toNat_lt
        by_cases hlo : 97 ≤ (s[k].toNat : Int) ∧ (s[k].toNat : Int) ≤ 122
        · have HLo := Lib.hid (show TM.lower s[k] = true by simp [TM.lower]; omega)
          obtain ⟨hlo1, hlo2⟩ := hlo
          obtain ⟨c', hc'⟩ : ∃ c' : UInt8, c'.toNat + 32 = s[k].toNat := ⟨UInt8.ofNat (s[k].toNat - 32), by rw [UInt8.toNat_ofNat']; omega⟩
          have k2 : ∀ W : World, _ := fun W => conv1 W c' ((s[k].toNat : Int) - 32) (by omega)
          have HC := Lib.hid hc'
          clear hc'
          go_wp2_with fail
          refine (One_any g wr hd 3 (by omega) (by omega)).mono ?_
          rintro e w2 ⟨b, rfl, hd2, hg2⟩
          have hg2 := grown_trans hg hg2
          cases b
          · go_wp2_with fail
            refine (One_any g _ (hd2.alloc _) 20 (by omega) (by omega)).mono ?_
            rintro e w3 ⟨b2, rfl, hd3, hg3⟩
            have hg3 := grown_trans (grown_alloc hg2 _) hg3
            go_wp2
            all_goals first
              | exact ⟨(LEAF.out s[k] w3 w3 (.inl rfl) hd3 hg3).1, by simp [intOf]; omega⟩
              | exact ⟨(LEAF.out s[k] w3 w3 (.inl rfl) hd3 hg3).2, by simp [intOf]; omega⟩
          · go_wp2_with fail
            refine (One_any g _ (hd2.alloc _) 20 (by omega) (by omega)).mono ?_
            rintro e w3 ⟨b2, rfl, hd3, hg3⟩
            have hg3 := grown_trans (grown_alloc hg2 _) hg3
            go_wp2
            all_goals first
              | exact ⟨(LEAF.out c' w3 w3 (.inr ⟨HLo.out, HC.out⟩) hd3 hg3).1, by simp [intOf]; omega⟩
              | exact ⟨(LEAF.out c' w3 w3 (.inr ⟨HLo.out, HC.out⟩) hd3 hg3).2, by simp [intOf]; omega⟩
        · by_cases h97 : 97 ≤ (s[k].toNat : Int)
          · have h122 : ¬ (s[k].toNat : Int) ≤ 122 := fun h => hlo ⟨h97, h⟩
            clear hlo
            go_wp2_with fail
            refine (One_any g _ (hd.alloc _) 20 (by omega) (by omega)).mono ?_
            rintro e w3 ⟨b2, rfl, hd3, hg3⟩
            have hg3 := grown_trans (grown_alloc hg _) hg3
            go_wp2
            all_goals first
              | exact ⟨(LEAF.out s[k] w3 w3 (.inl rfl) hd3 hg3).1, by simp [intOf]; omega⟩
              | exact ⟨(LEAF.out s[k] w3 w3 (.inl rfl) hd3 hg3).2, by simp [intOf]; omega⟩
          · clear hlo
            go_wp2_with fail
            refine (One_any g _ (hd.alloc _) 20 (by omega) (by omega)).mono ?_
            rintro e w3 ⟨b2, rfl, hd3, hg3⟩
            have hg3 := grown_trans (grown_alloc hg _) hg3
            go_wp2
            all_goals first
              | exact ⟨(LEAF.out s[k] w3 w3 (.inl rfl) hd3 hg3).1, by simp [intOf]; omega⟩
              | exact ⟨(LEAF.out s[k] w3 w3 (.inl rfl) hd3 hg3).2, by simp [intOf]; omega⟩
    · go_wp2_with fail
      refine (Pick_lit g wr postD hd (by decide) (by decide)).mono ?_
      rintro e w2 ⟨sp, hsp, rfl, hd2, hg2⟩
      obtain ⟨z1, hsp⟩ := postD_is sp hsp
      have HSp := Lib.hid hsp
      clear hsp
      go_wp2
      go_ret
      refine ⟨_, rfl, by rw [size_add]; omega, ?_, hd2, grown_trans hg hg2⟩
      obtain ⟨body, ho, hb⟩ := HH.out
      have hbd := hb [] (by rw [drop_end s k (by omega)]; rfl)
      rw [List.append_nil] at hbd
      exact ⟨_, body, _, by rw [data_add, ho], HP.out, HSp.out, hbd⟩
end Go.Proofs.YthplnfblpdojkaaGreatDoor
