/- The library's parting at spaces, its empty pieces dropped, gives the words. -/
import Derived.Test.YtblkebjfnboclaaDoorTextTokens
namespace Go.Proofs.YtblkebjfnboclaaDoor

def S (l : List UInt8) : List (List UInt8) := Lib.splitK [32] 0 (Lib.count l [32]) l

theorem index_cons (b : UInt8) (t : List UInt8) : Lib.index (b :: t) [32] = if b = 32 then 0 else if Lib.index t [32] = -1 then -1 else Lib.index t [32] + 1 := by
  rw [Lib.index]
  by_cases h : b = 32
  · subst h; simp
  · have : ([32] : List UInt8).isPrefixOf (b :: t) = false := by simp [List.isPrefixOf, Ne.symm h]
    rw [if_neg (by simp [this]), if_neg h]
    simp

theorem S_nil : S [] = [[]] := rfl
theorem S_space (t : List UInt8) : S (32 :: t) = [] :: S t := by
  have hi : Lib.index (32 :: t) [32] = ((0 : Nat) : Int) := by rw [index_cons, if_pos rfl]; rfl
  have hc := Lib.count_hit (s := 32 :: t) (sub := [32]) (by simp) hi
  unfold S
  rw [hc, Nat.add_comm, Lib.splitK, hi]
  simp
theorem S_ne (t : List UInt8) : S t ≠ [] := by
  unfold S
  cases h : Lib.count t [32] with
  | zero => simp [Lib.splitK]
  | succ k => rw [Lib.splitK]; split <;> simp
theorem S_cons (b : UInt8) (t : List UInt8) (h : b ≠ 32) : ∃ x xs, S t = x :: xs ∧ S (b :: t) = (b :: x) :: xs := by
  rcases Lib.index_spec t [32] with ⟨hm, _⟩ | ⟨i, hi, hle, ho, _⟩
  · have hm2 : Lib.index (b :: t) [32] = -1 := by rw [index_cons, if_neg h, if_pos hm]
    refine ⟨t, [], ?_, ?_⟩
    · unfold S; rw [Lib.count_miss hm]; rfl
    · unfold S; rw [Lib.count_miss hm2]; rfl
  · have hi2 : Lib.index (b :: t) [32] = ((i + 1 : Nat) : Int) := by rw [index_cons, if_neg h, if_neg (by omega), hi]; rfl
    have c1 := Lib.count_hit (s := t) (sub := [32]) (by simp) hi
    have c2 := Lib.count_hit (s := b :: t) (sub := [32]) (by simp) hi2
    replace c2 : Lib.count (b :: t) [32] = 1 + Lib.count (t.drop (i + 1)) [32] := c2
    replace c1 : Lib.count t [32] = 1 + Lib.count (t.drop (i + 1)) [32] := c1
    refine ⟨t.take i, Lib.splitK [32] 0 (Lib.count (t.drop (i + 1)) [32]) (t.drop (i + 1)), ?_, ?_⟩
    · unfold S
      rw [c1, Nat.add_comm, Lib.splitK, hi, if_neg (by simp)]
      simp
    · unfold S
      rw [c2, Nat.add_comm, Lib.splitK, hi2, if_neg (by simp; omega)]
      simp

theorem words_S (l : List UInt8) : ∀ p x xs, S l = x :: xs → TM.words p l = ((p ++ x) :: xs).filter (fun y => !y.isEmpty) := by
  induction l with
  | nil =>
    intro p x xs h
    rw [S_nil] at h
    obtain ⟨rfl, rfl⟩ := List.cons.inj h
    by_cases hp : p = [] <;> simp [TM.words, hp]
  | cons b t ih =>
    intro p x xs h
    by_cases hb : b = 32
    · subst hb
      rw [S_space] at h
      obtain ⟨rfl, rfl⟩ := List.cons.inj h
      obtain ⟨y, ys, hy⟩ := List.exists_cons_of_ne_nil (S_ne t)
      have := ih [] y ys hy
      rw [hy]
      have h32 : (32 : UInt8).toNat = 32 := rfl
      simp only [TM.words, h32, if_true]
      rw [this]
      by_cases hp : p = [] <;> simp [hp]
    · obtain ⟨y, ys, h1, h2⟩ := S_cons b t hb
      rw [h2] at h
      obtain ⟨rfl, rfl⟩ := List.cons.inj h
      have hn : ¬ b.toNat = 32 := fun e => hb (TM.u8_ext e)
      simp only [TM.words, hn, if_false]
      rw [ih (p ++ [b]) y ys h1]
      simp

theorem pieces_words (s : ByteArray) : ((pieces s).filter full).map (·.data.toList) = TM.words [] s.data.toList := by
  have h := Lib.splitB_data sp 0 (Lib.countB s sp) s
  have hs : (pieces s).map (·.data.toList) = S s.data.toList := h
  have hf : full = (fun y : List UInt8 => !y.isEmpty) ∘ (·.data.toList) := by
    funext x
    unfold full
    rw [Lib.toList_data]
    rfl
  rw [hf, ← List.filter_map, hs]
  obtain ⟨x, xs, e⟩ := List.exists_cons_of_ne_nil (S_ne s.data.toList)
  rw [words_S _ [] x xs e, e]
  rfl
/-- A slice of texts that reads as a list of lists of bytes. -/
def IsLists (B : Nat) (w : World) (v : Value) (ls : List (List UInt8)) : Prop := ∃ xs : List ByteArray, IsTexts B w v xs ∧ xs.map (·.data.toList) = ls
theorem IsLists.keep {B : Nat} {w w' : World} {v : Value} {xs : List (List UInt8)} (h : IsLists B w v xs) (hb : Go.RowKit.Below B w w') : IsLists B w' v xs := by
  obtain ⟨ys, h1, h2⟩ := h
  exact ⟨ys, h1.keep hb, h2⟩
theorem IsLists.more {B B' : Nat} {w : World} {v : Value} {xs : List (List UInt8)} (h : IsLists B w v xs) (hb : B ≤ B') : IsLists B' w v xs := by
  obtain ⟨ys, h1, h2⟩ := h
  exact ⟨ys, h1.more hb, h2⟩

open Go.RowKit
set_option maxRecDepth 100000
theorem Tokens_any (s : ByteArray) (w : World) (hE : Env w) (hs : s.size ≤ 1048576) :
    Calls Tryd.prog 32 #[.string s] w fun e w' => ∃ v, e = .returned v ∧ IsLists w'.heap.size w' v (TM.words [] s.data.toList) ∧ Below w.heap.size w w' :=
  (Tokens_core s w hE hs).mono fun _ _ ⟨v, he, ht, hb⟩ => ⟨v, he, ⟨_, ht, pieces_words s⟩, hb⟩

theorem words_len (m : List UInt8) : ∀ p, (TM.words p m).length ≤ m.length + 1 ∧ (TM.join (TM.words p m)).length ≤ p.length + m.length := by
  induction m with
  | nil => intro p; by_cases hp : p = [] <;> simp [TM.words, hp, TM.join]
  | cons c t ih =>
    intro p
    by_cases hc : c.toNat = 32
    · by_cases hp : p = []
      · have := ih []
        simp [TM.words, hc, hp] at this ⊢
        omega
      · have := ih []
        simp only [TM.words, hc, hp, if_true, if_false, List.length_cons, List.length_nil] at this ⊢
        refine ⟨by omega, ?_⟩
        cases h : TM.words [] t with
        | nil => simp [TM.join]
        | cons a u => rw [h] at this; simp [TM.join]; omega
    · have := ih (p ++ [c])
      simp only [TM.words, hc, if_false, List.length_append, List.length_cons, List.length_nil] at this ⊢
      omega

/-- What Fold gives. -/
def foldVal (s : ByteArray) : Value := if validB s then .tuple #[.string (bs (TM.fold s.data.toList)), .int .i64 0] else .tuple #[.string ⟨#[]⟩, .int .i64 3]

theorem spell_len (l : List UInt8) : (TM.spell l).length ≤ l.length := by
  induction l using TM.spell.induct with
  | case1 => simp [TM.spell_nil]
  | case2 c h => simp [TM.spell_alone c h]
  | case3 c h d u ih =>
    have := TM.repl_le d
    rw [TM.spell_pair _ _ _ h]; simp; omega
  | case4 c t h ih =>
    have := TM.one_le c
    rw [TM.spell_one _ _ h]; simp; omega

/-- Whether a text is what Fold gives of itself. -/
def foldedB (s : ByteArray) : Bool := validB s && TM.fold s.data.toList == s.data.toList

theorem str_beq (a b : ByteArray) : (a.toList == b.toList) = (a.data.toList == b.data.toList) := by rw [Lib.toList_data, Lib.toList_data]

end Go.Proofs.YtblkebjfnboclaaDoor
