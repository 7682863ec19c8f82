/- The walk of Dress; a new deck; short lists. -/
import Derived.Test.YthplnfblpdojkaaDoorDeckText
import Derived.Test.YthplnfblpdojkaaDoorDressMath
namespace Go.Proofs.YthplnfblpdojkaaDoor
open Go.RowKit
set_option maxRecDepth 100000

def preD : List ByteArray := [⟨#[]⟩, ⟨#[]⟩, ⟨#[32]⟩, ⟨#[45]⟩]
def sepD : List ByteArray := [⟨#[32]⟩, ⟨#[45]⟩, ⟨#[44, 32]⟩, ⟨#[46]⟩, ⟨#[32, 32]⟩, ⟨#[47]⟩]
def postD : List ByteArray := [⟨#[]⟩, ⟨#[]⟩, ⟨#[32]⟩, ⟨#[46]⟩]
theorem preD_is : ∀ s ∈ preD, s.size ≤ 1 ∧ (s.data.toList = [] ∨ s.data.toList = [32] ∨ s.data.toList = [45]) := by decide
theorem sepD_is : ∀ s ∈ sepD, s.size ≤ 2 ∧ (s.data.toList = [32] ∨ s.data.toList = [45] ∨ s.data.toList = [44, 32] ∨ s.data.toList = [46] ∨ s.data.toList = [32, 32] ∨ s.data.toList = [47]) := by decide
theorem postD_is : ∀ s ∈ postD, s.size ≤ 1 ∧ (s.data.toList = [] ∨ s.data.toList = [32] ∨ s.data.toList = [46]) := by decide

/-- r is a dressed s. -/
def Dressed (s r : List UInt8) : Prop := ∃ pre body post, r = pre ++ body ++ post ∧ (pre = [] ∨ pre = [32] ∨ pre = [45]) ∧ (post = [] ∨ post = [32] ∨ post = [46]) ∧ TM.drs s body

/-- What has been written at place k. -/
def Half (s pre o : List UInt8) (k : Nat) : Prop := ∃ body, o = pre ++ body ∧ ∀ r, TM.drs (s.drop k) r → TM.drs s (body ++ r)

theorem Half.char {s : ByteArray} {pre : List UInt8} {o : ByteArray} {k : Nat} (h : Half s.data.toList pre o.data.toList k) (hk : k < s.size) (h32 : ¬ (s[k].toNat : Int) = 32) (c' : UInt8) (hc : c' = s[k] ∨ (TM.lower s[k] = true ∧ c'.toNat + 32 = s[k].toNat)) :
    Half s.data.toList pre (o ++ ⟨#[c']⟩ : ByteArray).data.toList (k + 1) ∧ Half s.data.toList pre (o ++ ⟨#[c']⟩ ++ ⟨#[39]⟩ : ByteArray).data.toList (k + 1) := by
  obtain ⟨body, ho, hb⟩ := h
  refine ⟨⟨body ++ [c'], ?_, fun r hr => ?_⟩, ⟨body ++ [c', 39], ?_, fun r hr => ?_⟩⟩
  · rw [data_add, ho]; simp
  · rw [List.append_assoc]
    refine hb _ ?_
    rw [drop_at s k hk]
    exact TM.drs_char (q := []) (by omega) hc (.inl rfl) hr
  · rw [data_add, data_add, ho]; simp
  · rw [List.append_assoc]
    refine hb _ ?_
    rw [drop_at s k hk]
    exact TM.drs_char (q := [39]) (by omega) hc (.inr rfl) hr
theorem Half.space {s : ByteArray} {pre : List UInt8} {o : ByteArray} {k : Nat} (h : Half s.data.toList pre o.data.toList k) (hk : k < s.size) (h32 : (s[k].toNat : Int) = 32) (sp : ByteArray)
    (hs : sp.data.toList = [32] ∨ sp.data.toList = [45] ∨ sp.data.toList = [44, 32] ∨ sp.data.toList = [46] ∨ sp.data.toList = [32, 32] ∨ sp.data.toList = [47]) : Half s.data.toList pre (o ++ sp).data.toList (k + 1) := by
  obtain ⟨body, ho, hb⟩ := h
  refine ⟨body ++ sp.data.toList, ?_, fun r hr => ?_⟩
  · rw [data_add, ho]; simp
  · rw [List.append_assoc]
    refine hb _ ?_
    rw [drop_at s k hk]
    exact TM.drs_space (by omega) hs hr

end Go.Proofs.YthplnfblpdojkaaDoor
