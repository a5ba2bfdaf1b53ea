/-
  A tree of entries in a list: above the places 2i + 1 and 2i + 2 is the place i; an entry settles up, or down.
  What a tree of entries has, in order: a list in which each is before all that stand behind it.
  The heap: which of two entries is before the other one, and where an entry has to go.
  The heap: an entry settles, up or down.
  The heap: made, asked how many there are, asked for the least.
  The heap: an item is pushed.
  The heap: the least item is taken out.
  The heap: the document's examples.
-/
import Derived.Test.YtellaeihcignaaaGreatDoorRows
import Derived.Test.YtellaeihcignaaaGreatDoorFrame
import Derived.WalkKit
import Derived.WalkSpells
import Derived.WalkLawsBesides
import Derived.RegionTactic
import Derived.Deep.QuietTactic
import Derived.BigQuiet
import Derived.StillTailTactics
import Derived.Maps.AppendAt
import Derived.Lib.Hide
import Derived.ChangeAlike
import Derived.Deep.AppendLies
import Derived.Deep.RegionLaw
import Derived.Deep.CutRange
import Derived.Deep.DeepCutAuto
import Derived.BigRegion
import Derived.WalkSmall
set_option linter.unusedVariables false
set_option maxRecDepth 100000
section
section
namespace Go.Proofs.YtellaeihcignaaaGreatDoor

/-- An entry: its key, its value, and how many were pushed ahead of it. -/
structure E where
  k : Int
  v : Int
  t : Int
deriving DecidableEq
namespace E
/-- Is one before another one? -/
def lt (a b : E) : Bool := if a.k = b.k then decide (a.t < b.t) else decide (a.k < b.k)
def le (a b : E) : Prop := a.k < b.k ∨ (a.k = b.k ∧ a.t ≤ b.t)
theorem lt_true (a b : E) : lt a b = true ↔ a.k < b.k ∨ (a.k = b.k ∧ a.t < b.t) := by
  unfold lt; split <;> simp <;> omega
theorem lt_false (a b : E) : lt a b = false ↔ le b a := by
  unfold lt le; split <;> simp <;> omega
theorem le_refl (a : E) : le a a := .inr ⟨rfl, Int.le_refl _⟩
theorem le_trans {a b c : E} (h : le a b) (k : le b c) : le a c := by unfold le at *; omega
theorem le_of_lt {a b : E} (h : lt a b = true) : le a b := by rw [lt_true] at h; unfold le; omega
theorem lt_irrefl (a : E) : lt a a = false := by rw [lt_false]; exact le_refl a
end E
open E

/-- The entry at a place. -/
def gt (l : List E) (i : Nat) : E := l.getD i ⟨0, 0, 0⟩
theorem gt_some {l : List E} {i : Nat} (h : i < l.length) : l[i]? = some (gt l i) := by simp [gt, List.getElem?_eq_getElem h]
theorem gt_get {l : List E} {i : Nat} (h : i < l.length) : gt l i = l[i] := by simp [gt, h]
theorem gt_set (l : List E) (i j : Nat) (x : E) (hi : i < l.length) : gt (l.set i x) j = if i = j then x else gt l j := by
  unfold gt
  by_cases h : i = j
  · subst h; simp [hi]
  · simp [h]
/-- The entries at two places are exchanged. -/
def swp (l : List E) (i j : Nat) : List E := (l.set i (gt l j)).set j (gt l i)
theorem swp_length (l : List E) (i j : Nat) : (swp l i j).length = l.length := by simp [swp]
theorem gt_swp (l : List E) (i j k : Nat) (hi : i < l.length) (hj : j < l.length) : gt (swp l i j) k = if k = j then gt l i else if k = i then gt l j else gt l k := by
  unfold swp
  rw [gt_set _ _ _ _ (by simpa using hj), gt_set _ _ _ _ hi]
  by_cases h1 : k = j
  · simp [h1]
  · have h1' : ¬ j = k := fun e => h1 e.symm
    by_cases h2 : k = i
    · subst h2; simp [h1, h1']
    · have h2' : ¬ i = k := fun e => h2 e.symm
      simp [h1, h2, h1', h2']

theorem perm_set (x : E) : ∀ (l : List E) (j : Nat), j < l.length → (gt l j :: l.set j x).Perm (x :: l)
  | [], j, h => by simp at h
  | a :: l, 0, h => by simp [gt]; exact List.Perm.swap _ _ _
  | a :: l, j + 1, h => by
    have ih := perm_set x l j (by simpa using h)
    have e : gt (a :: l) (j + 1) = gt l j := by simp [gt]
    rw [e, List.set_cons_succ]
    exact (List.Perm.swap _ _ _).trans ((ih.cons a).trans (List.Perm.swap _ _ _))

theorem swp_perm (l : List E) (i j : Nat) (hi : i < l.length) (hj : j < l.length) : (swp l i j).Perm l := by
  have p1 := perm_set (gt l j) l i hi
  have p2 := perm_set (gt l i) (l.set i (gt l j)) j (by simpa using hj)
  have e : gt (l.set i (gt l j)) j = gt l j := by rw [gt_set _ _ _ _ hi]; split <;> simp_all
  rw [e] at p2
  exact (List.Perm.cons_inv (p2.trans p1))

/-- No entry is before the one above it. -/
def Hp (l : List E) : Prop := ∀ i, 0 < i → i < l.length → le (gt l ((i - 1) / 2)) (gt l i)
theorem Hp.root {l : List E} (h : Hp l) : ∀ i, i < l.length → le (gt l 0) (gt l i) := by
  intro i
  induction i using Nat.strongRecOn with
  | ind i ih =>
    intro hi
    by_cases h0 : i = 0
    · subst h0; exact le_refl _
    · exact le_trans (ih ((i - 1) / 2) (by omega) (by omega)) (h i (by omega) hi)

/-- Where an entry goes that is before the one above it. -/
def up (l : List E) (i : Nat) : Nat := if lt (gt l i) (gt l ((i - 1) / 2)) then (i - 1) / 2 else i
/-- The least of an entry's place and of so many places from one on. -/
def lst (l : List E) : Nat → Nat → Nat → Nat
  | a, _, 0 => a
  | a, f, k + 1 => lst l (if lt (gt l f) (gt l a) then f else a) (f + 1) k
/-- Where an entry goes that is not before those below it. -/
def dn (l : List E) (i : Nat) : Nat := lst l i (2 * i + 1) (min (2 * i + 3) l.length - (2 * i + 1))

inductive Stl (f : List E → Nat → Nat) : List E → Nat → List E → Prop
  | stop (l : List E) (i : Nat) (h : f l i = i) : Stl f l i l
  | step (l l' : List E) (i : Nat) (h : f l i ≠ i) (r : Stl f (swp l i (f l i)) (f l i) l') : Stl f l i l'

theorem up_le (l : List E) (i : Nat) : up l i ≤ i := by unfold up; split <;> omega
theorem up_ne {l : List E} {i : Nat} (h : up l i ≠ i) : lt (gt l i) (gt l ((i - 1) / 2)) = true ∧ up l i = (i - 1) / 2 ∧ 0 < i := by
  unfold up at *
  by_cases c : lt (gt l i) (gt l ((i - 1) / 2)) = true
  · simp [c] at h ⊢; omega
  · simp [c] at h
theorem up_eq {l : List E} {i : Nat} (h : up l i = i) (hi : 0 < i) : le (gt l ((i - 1) / 2)) (gt l i) := by
  unfold up at h
  by_cases c : lt (gt l i) (gt l ((i - 1) / 2)) = true
  · simp [c] at h; omega
  · exact (lt_false _ _).1 (by simpa using c)

structure UpInv (l : List E) (i : Nat) : Prop where
  at_ : i < l.length
  all : ∀ j, 0 < j → j < l.length → j ≠ i → le (gt l ((j - 1) / 2)) (gt l j)
  sub : ∀ j, 0 < j → j < l.length → (j - 1) / 2 = i → 0 < i → le (gt l ((i - 1) / 2)) (gt l j)

theorem UpInv.step {l : List E} {i : Nat} (h : UpInv l i) (hn : up l i ≠ i) : UpInv (swp l i (up l i)) (up l i) := by
  obtain ⟨hlt, hp, h0⟩ := up_ne hn
  have hle := le_of_lt hlt
  rw [hp]
  have hi := h.at_
  have hpi : (i - 1) / 2 < l.length := by omega
  have hl := swp_length l i ((i - 1) / 2)
  refine ⟨by omega, ?_, ?_⟩
  · intro j hj0 hj hji
    rw [hl] at hj
    rw [gt_swp _ _ _ _ hi hpi, gt_swp _ _ _ _ hi hpi]
    by_cases c1 : j = i
    · subst c1; simp [hji, hle]
    · by_cases c2 : (j - 1) / 2 = (i - 1) / 2
      · have := h.all j hj0 hj c1
        rw [c2] at this
        simp [c1, hji, c2]
        exact le_trans hle this
      · by_cases c3 : (j - 1) / 2 = i
        · have := h.sub j hj0 hj c3 h0
          have c4 : ¬ i = (i - 1) / 2 := by omega
          simp [c1, hji, c3, c4, this]
        · simp [c1, hji, c2, c3]; exact h.all j hj0 hj c1
  · intro j hj0 hj hji hp0
    rw [hl] at hj
    have c5 := h.all ((i - 1) / 2) hp0 hpi (by omega)
    rw [gt_swp _ _ _ _ hi hpi, gt_swp _ _ _ _ hi hpi]
    have d1 : ¬ ((i - 1) / 2 - 1) / 2 = (i - 1) / 2 := by omega
    have d2 : ¬ ((i - 1) / 2 - 1) / 2 = i := by omega
    have d3 : ¬ j = (i - 1) / 2 := by omega
    by_cases c1 : j = i
    · subst c1; simp [d1, d2, d3, c5]
    · have := h.all j hj0 hj c1
      rw [hji] at this
      simp [d1, d2, d3, c1]
      exact le_trans c5 this

theorem up_settles {l l' : List E} {i : Nat} (h : UpInv l i) (hs : Stl up l i l') : Hp l' ∧ l'.Perm l := by
  induction hs with
  | stop l i hf =>
    refine ⟨?_, List.Perm.refl _⟩
    intro j h0 hj
    by_cases c : j = i
    · subst c; exact up_eq hf h0
    · exact h.all j h0 hj c
  | step l l' i hf r ih =>
    obtain ⟨a, b⟩ := ih (h.step hf)
    have hp := (up_ne hf).2
    exact ⟨a, b.trans (swp_perm l i (up l i) h.at_ (by have := h.at_; omega))⟩

theorem dn_cases (l : List E) (i : Nat) : dn l i = i ∨ (dn l i = 2 * i + 1 ∧ 2 * i + 1 < l.length) ∨ (dn l i = 2 * i + 2 ∧ 2 * i + 2 < l.length) := by
  unfold dn
  by_cases h1 : l.length ≤ 2 * i + 1
  · have : min (2 * i + 3) l.length - (2 * i + 1) = 0 := by omega
    rw [this]; simp [lst]
  · by_cases h2 : l.length = 2 * i + 2
    · have : min (2 * i + 3) l.length - (2 * i + 1) = 1 := by omega
      rw [this]; simp only [lst]; split <;> omega
    · have : min (2 * i + 3) l.length - (2 * i + 1) = 2 := by omega
      rw [this]; simp only [lst]; split <;> (try split) <;> omega

theorem lst_le (l : List E) : ∀ (k a f : Nat), le (gt l (lst l a f k)) (gt l a) ∧ ∀ j, f ≤ j → j < f + k → le (gt l (lst l a f k)) (gt l j)
  | 0, a, f => ⟨le_refl _, fun j h1 h2 => by omega⟩
  | k + 1, a, f => by
    obtain ⟨h1, h2⟩ := lst_le l k (if lt (gt l f) (gt l a) then f else a) (f + 1)
    simp only [lst]
    by_cases c : lt (gt l f) (gt l a) = true
    · simp only [c, if_true] at h1 h2 ⊢
      refine ⟨le_trans h1 (le_of_lt c), fun j a1 a2 => ?_⟩
      by_cases e : j = f
      · subst e; exact h1
      · exact h2 j (by omega) (by omega)
    · simp only [c] at h1 h2 ⊢
      refine ⟨h1, fun j a1 a2 => ?_⟩
      by_cases e : j = f
      · subst e; exact le_trans h1 ((lt_false _ _).1 (by simpa using c))
      · exact h2 j (by omega) (by omega)

theorem dn_le (l : List E) (i : Nat) : le (gt l (dn l i)) (gt l i) ∧ ∀ j, 0 < j → j < l.length → (j - 1) / 2 = i → le (gt l (dn l i)) (gt l j) := by
  obtain ⟨h1, h2⟩ := lst_le l (min (2 * i + 3) l.length - (2 * i + 1)) i (2 * i + 1)
  exact ⟨h1, fun j a b c => h2 j (by omega) (by omega)⟩

structure DnInv (l : List E) (i : Nat) : Prop where
  all : ∀ j, 0 < j → j < l.length → (j - 1) / 2 ≠ i → le (gt l ((j - 1) / 2)) (gt l j)
  sub : ∀ j, 0 < j → j < l.length → (j - 1) / 2 = i → 0 < i → le (gt l ((i - 1) / 2)) (gt l j)

theorem DnInv.step {l : List E} {i : Nat} (h : DnInv l i) (hn : dn l i ≠ i) : DnInv (swp l i (dn l i)) (dn l i) := by
  obtain ⟨hle, hall⟩ := dn_le l i
  have hc := dn_cases l i
  generalize hm : dn l i = m at *
  have hml : m < l.length := by omega
  have hi : i < l.length := by omega
  have hpm : (m - 1) / 2 = i := by omega
  have hl := swp_length l i m
  refine ⟨?_, ?_⟩
  · intro j hj0 hj hji
    rw [hl] at hj
    rw [gt_swp _ _ _ _ hi hml, gt_swp _ _ _ _ hi hml]
    by_cases c1 : j = m
    · subst c1
      have d1 : ¬ i = j := by omega
      simp [hpm, d1, hle]
    · by_cases c2 : (j - 1) / 2 = i
      · have d1 : ¬ i = m := by omega
        have d2 : ¬ j = i := by omega
        simp [c2, d1, d2, c1]
        exact hall j hj0 hj c2
      · by_cases c3 : j = i
        · subst c3
          have d1 : ¬ (j - 1) / 2 = j := by omega
          have d2 : ¬ (j - 1) / 2 = m := by omega
          simp [c1, d1, d2]
          exact h.sub m (by omega) hml hpm hj0
        · simp [hji, c1, c2, c3]
          exact h.all j hj0 hj c2
  · intro j hj0 hj hji hp0
    rw [hl] at hj
    rw [gt_swp _ _ _ _ hi hml, gt_swp _ _ _ _ hi hml]
    have d1 : ¬ i = m := by omega
    have d2 : ¬ j = m := by omega
    have d3 : ¬ j = i := by omega
    simp [hpm, d1, d2, d3]
    have := h.all j hj0 hj (by omega)
    rw [hji] at this
    exact this

theorem dn_settles {l l' : List E} {i : Nat} (h : DnInv l i) (hs : Stl dn l i l') : Hp l' ∧ l'.Perm l := by
  induction hs with
  | stop l i hf =>
    refine ⟨?_, List.Perm.refl _⟩
    intro j h0 hj
    by_cases c : (j - 1) / 2 = i
    · have := (dn_le l i).2 j h0 hj c
      rw [hf] at this; rw [c]; exact this
    · exact h.all j h0 hj c
  | step l l' i hf r ih =>
    obtain ⟨a, b⟩ := ih (h.step hf)
    have hc := dn_cases l i
    exact ⟨a, b.trans (swp_perm l i (dn l i) (by omega) (by omega))⟩

theorem settles_length {f : List E → Nat → Nat} {l l' : List E} {i : Nat} (hs : Stl f l i l') : l'.length = l.length := by
  induction hs with
  | stop => rfl
  | step l l' i hf r ih => rw [ih, swp_length]

end Go.Proofs.YtellaeihcignaaaGreatDoor
end

section
namespace Go.Proofs.YtellaeihcignaaaGreatDoor
open E

/-- An entry is laid behind all whose keys are no greater. -/
def ins (x : E) : List E → List E
  | [] => [x]
  | a :: l => if a.k ≤ x.k then a :: ins x l else x :: a :: l
def Sorted (M : List E) : Prop := M.Pairwise fun a b => lt a b = true

theorem ins_perm (x : E) : ∀ M : List E, (ins x M).Perm (x :: M)
  | [] => List.Perm.refl _
  | a :: l => by
    unfold ins
    split
    · exact ((ins_perm x l).cons a).trans (List.Perm.swap x a l)
    · exact List.Perm.refl _
theorem ins_length (x : E) (M : List E) : (ins x M).length = M.length + 1 := (ins_perm x M).length_eq
theorem mem_ins (x y : E) (M : List E) : y ∈ ins x M ↔ y = x ∨ y ∈ M := by rw [(ins_perm x M).mem_iff]; simp
theorem ins_sorted (x : E) : ∀ M : List E, Sorted M → (∀ y ∈ M, y.t < x.t) → Sorted (ins x M)
  | [], _, _ => by simp [ins, Sorted]
  | a :: l, h, ht => by
    unfold Sorted at h ⊢
    rw [List.pairwise_cons] at h
    unfold ins
    split
    · rename_i hk
      rw [List.pairwise_cons]
      refine ⟨fun y hy => ?_, ins_sorted x l h.2 (fun y hy => ht y (by simp [hy]))⟩
      rcases (mem_ins x y l).1 hy with rfl | hy
      · rw [lt_true]; have := ht a (by simp); omega
      · exact h.1 y hy
    · rename_i hk
      rw [List.pairwise_cons]
      refine ⟨fun y hy => ?_, by rw [List.pairwise_cons]; exact h⟩
      rcases List.mem_cons.1 hy with rfl | hy
      · rw [lt_true]; omega
      · have := (lt_true _ _).1 (h.1 y hy); rw [lt_true]; omega

/-- A tree has, in order, the entries M, of which each was pushed ahead of the n-th. -/
structure Abs (es M : List E) (n : Nat) : Prop where
  hp : Hp es
  perm : es.Perm M
  sorted : Sorted M
  turns : ∀ x ∈ M, x.t < (n : Int)

theorem Abs.nil : Abs [] [] 0 := ⟨fun i h1 h2 => by simp at h2, List.Perm.refl _, by simp [Sorted], by simp⟩
theorem Abs.length {es M : List E} {n : Nat} (h : Abs es M n) : es.length = M.length := h.perm.length_eq

theorem gt_app_left (es : List E) (x : E) (j : Nat) (h : j < es.length) : gt (es ++ [x]) j = gt es j := by
  unfold gt; rw [List.getD_eq_getElem?_getD, List.getD_eq_getElem?_getD, List.getElem?_append_left h]
theorem gt_app_last (es : List E) (x : E) : gt (es ++ [x]) es.length = x := by
  unfold gt; rw [List.getD_eq_getElem?_getD]; simp

theorem Abs.push {es M l' : List E} {n : Nat} {x : E} (h : Abs es M n) (hx : x.t = n) (hs : Stl up (es ++ [x]) es.length l') : Abs l' (ins x M) (n + 1) := by
  have hi : UpInv (es ++ [x]) es.length := by
    refine ⟨by simp, ?_, ?_⟩
    · intro j h0 hj hne
      simp at hj
      rw [gt_app_left _ _ _ (by omega), gt_app_left _ _ _ (by omega)]
      exact h.hp j h0 (by omega)
    · intro j h0 hj hp h1
      simp at hj
      omega
  obtain ⟨h1, h2⟩ := up_settles hi hs
  refine ⟨h1, ?_, ins_sorted x M h.sorted (fun y hy => by rw [hx]; exact h.turns y hy), ?_⟩
  · refine h2.trans (List.Perm.trans ?_ (ins_perm x M).symm)
    exact (List.perm_append_comm (l₁ := es) (l₂ := [x])).trans (h.perm.cons x)
  · intro y hy
    rcases (mem_ins x y M).1 hy with rfl | hy
    · omega
    · have := h.turns y hy; omega

theorem Abs.root {es M : List E} {n : Nat} {m : E} (h : Abs es (m :: M) n) : gt es 0 = m := by
  have hl := h.length
  simp at hl
  have hm : gt es 0 ∈ m :: M := h.perm.mem_iff.1 (by rw [gt_get (by omega)]; exact List.getElem_mem _)
  rcases List.mem_cons.1 hm with e | hmem
  · exact e
  · have h1 := (List.pairwise_cons.1 h.sorted).1 _ hmem
    obtain ⟨i, hi, he⟩ := List.getElem_of_mem (h.perm.mem_iff.2 (List.mem_cons_self (a := m) (l := M)))
    have h2 := h.hp.root i hi
    rw [gt_get hi, he] at h2
    have := (lt_true _ _).1 h1
    unfold le at h2
    omega

theorem gt_take (l : List E) (k j : Nat) (h : j < k) : gt (l.take k) j = gt l j := by
  unfold gt; rw [List.getD_eq_getElem?_getD, List.getD_eq_getElem?_getD, List.getElem?_take]; simp [h]

theorem pop_perm : ∀ (es : List E) (k : Nat), es.length = k + 1 → (gt es 0 :: (es.set 0 (gt es k)).take k).Perm es
  | [], k, h => by simp at h
  | [a], k, h => by
    simp at h
    subst h
    simp [gt]
  | a :: b :: t, k, h => by
    simp at h
    subst h
    have e1 : gt (a :: b :: t) 0 = a := rfl
    have e2 : gt (a :: b :: t) (t.length + 1) = (b :: t).getLast (by simp) := by
      rw [gt_get (by simp), List.getLast_eq_getElem]; simp
    rw [e1, e2]
    refine List.Perm.cons a ?_
    simp only [List.set_cons_zero, List.take_succ_cons]
    have e3 : (b :: t).take t.length = (b :: t).dropLast := by rw [List.dropLast_eq_take]; simp
    rw [e3]
    have e4 := List.dropLast_concat_getLast (l := b :: t) (by simp)
    have p := List.perm_append_comm (l₁ := (b :: t).dropLast) (l₂ := [(b :: t).getLast (by simp)])
    rw [e4] at p
    exact p.symm

theorem Abs.pop {es M l' : List E} {n k : Nat} {m : E} (h : Abs es (m :: M) n) (hk : es.length = k + 1) (hs : Stl dn ((es.set 0 (gt es k)).take k) 0 l') : Abs l' M n := by
  have hi : DnInv ((es.set 0 (gt es k)).take k) 0 := by
    refine ⟨?_, fun j _ _ _ h0 => by omega⟩
    intro j h0 hj hne
    simp at hj
    rw [gt_take _ _ _ (by omega), gt_take _ _ _ (by omega), gt_set _ _ _ _ (by omega), gt_set _ _ _ _ (by omega)]
    rw [if_neg (by omega), if_neg (by omega)]
    exact h.hp j h0 (by omega)
  obtain ⟨h1, h2⟩ := dn_settles hi hs
  have p := pop_perm es k hk
  rw [h.root] at p
  exact ⟨h1, h2.trans (List.Perm.cons_inv (p.trans h.perm)), (List.pairwise_cons.1 h.sorted).2, fun x hx => h.turns x (by simp [hx])⟩

end Go.Proofs.YtellaeihcignaaaGreatDoor
end
end

section
section
namespace Go.Proofs.YtellaeihcignaaaGreatDoor
open Go.RowKit E


/-- An entry's cells, and the cells of many. -/
def e3 (x : E) : List Value := [.int .i64 x.k, .int .i64 x.v, .int .i64 x.t]
def ec : List E → List Value
  | [] => []
  | x :: l => e3 x ++ ec l
theorem ec_length : ∀ l : List E, (ec l).length = l.length * 3
  | [] => rfl
  | x :: l => by simp [ec, e3, ec_length l]; omega
theorem ec_app : ∀ l m : List E, ec (l ++ m) = ec l ++ ec m
  | [], m => rfl
  | x :: l, m => by simp [ec, ec_app l m]
theorem ec_get : ∀ (l : List E) (i : Nat), i < l.length → (ec l)[i * 3]? = some (.int .i64 (gt l i).k) ∧ (ec l)[i * 3 + 1]? = some (.int .i64 (gt l i).v) ∧ (ec l)[i * 3 + 2]? = some (.int .i64 (gt l i).t)
  | [], i, h => by simp at h
  | x :: l, 0, h => by simp [ec, e3, gt]
  | x :: l, i + 1, h => by
    have ih := ec_get l i (by simpa using h)
    have e : gt (x :: l) (i + 1) = gt l i := by simp [gt]
    have e1 : (i + 1) * 3 = i * 3 + 3 := by omega
    have e2 : (i + 1) * 3 + 1 = i * 3 + 1 + 3 := by omega
    have e4 : (i + 1) * 3 + 2 = i * 3 + 2 + 3 := by omega
    rw [e, e2, e4, e1]
    simpa [ec, e3] using ih
/-- An entry as a value. -/
def ev (x : E) : Value := .agg #[.int .i64 x.k, .int .i64 x.v, .int .i64 x.t]

/-- Whether something is so is told; nothing that was there is written. -/
def Tells (b : Bool) (w : World) (e : Ending) (w' : World) : Prop := e = .returned (.bool b) ∧ Below w.heap.size w w'
def TellsN (n : Nat) (w : World) (e : Ending) (w' : World) : Prop := e = .returned (.int .i64 (n : Int)) ∧ Below w.heap.size w w'





theorem half_any (i : Nat) : ((i : Int) - 1).tdiv 2 = (((i - 1) / 2 : Nat) : Int) := by
  by_cases h : i = 0
  · subst h; rfl
  · rw [Int.tdiv_eq_ediv_of_nonneg (by omega)]; omega



end Go.Proofs.YtellaeihcignaaaGreatDoor
end

section
namespace Go.Proofs.YtellaeihcignaaaGreatDoor
open Go.RowKit E



theorem ec_set : ∀ (l : List E) (i : Nat) (x : E), ec (l.set i x) = (((ec l).set (i * 3) (.int .i64 x.k)).set (i * 3 + 1) (.int .i64 x.v)).set (i * 3 + 2) (.int .i64 x.t)
  | [], i, x => by simp [ec]
  | a :: l, 0, x => by simp [ec, e3]
  | a :: l, i + 1, x => by
    have e1 : (i + 1) * 3 = i * 3 + 1 + 1 + 1 := by omega
    rw [List.set_cons_succ, ec, ec_set l i x, e1]
    simp [ec, e3]


/-- Only the block of the tree is written. -/
def OnlyB (g : Nat) : Nat → Prop := fun k => k = g
theorem Turn.three {F F' : Nat → Prop} {w w' : World} (h : Turn F F' w w') {g : Nat} (o1 o2 o3 : Nat) (u1 u2 u3 : Value) (hg : F' g) : Turn F F' w (((w'.setCell ⟨g, o1, none⟩ u1).setCell ⟨g, o2, none⟩ u2).setCell ⟨g, o3, none⟩ u3) :=
  ((h.put u1 hg).put u2 hg).put u3 hg



end Go.Proofs.YtellaeihcignaaaGreatDoor
end

section
namespace Go.Proofs.YtellaeihcignaaaGreatDoor
open Go.RowKit E

/-- The heap's blocks. -/
def HF (b : Nat) (v : Value) : Nat → Prop := fun k => k = b ∨ v.ownBlock = some k




/-- An item and whether there is one. -/
def Item? (M : List E) : Value := match M with
  | [] => .tuple #[.agg #[.int .i64 0, .int .i64 0], .bool false]
  | m :: _ => .tuple #[.agg #[.int .i64 m.k, .int .i64 m.v], .bool true]



end Go.Proofs.YtellaeihcignaaaGreatDoor
end

section
namespace Go.Proofs.YtellaeihcignaaaGreatDoor
open Go.RowKit E






end Go.Proofs.YtellaeihcignaaaGreatDoor
end

section
namespace Go.Proofs.YtellaeihcignaaaGreatDoor
open Go.RowKit E


theorem two_cells {w : World} {A : Nat} {x y : Value} {T : TypeId} (u v : Value) (h : w.heap[A]? = some (.cells #[x, y] T (0, 0))) :
    ((w.setCell ⟨A, 0, none⟩ u).setCell ⟨A, 1, none⟩ v).heap[A]? = some (.cells #[u, v] T (0, 0)) := by
  rw [heap_setCell_same _ A 1 _ _ v (heap_setCell_same w A 0 _ _ u h)]; simp
theorem two_read {w : World} {A : Nat} {x y : Value} {T : TypeId} (h : w.heap[A]? = some (.cells #[x, y] T (0, 0))) : w.cell? ⟨A, 0, none⟩ = some x ∧ w.cell? ⟨A, 1, none⟩ = some y ∧ w.frozen? ⟨A, 0, none⟩ = false ∧ w.frozen? ⟨A, 1, none⟩ = false :=
  ⟨by rw [cell_of_row w A 0 _ _ _ h]; rfl, by rw [cell_of_row w A 1 _ _ _ h]; rfl, frozen_of_row w A 0 _ _ h, frozen_of_row w A 1 _ _ h⟩









end Go.Proofs.YtellaeihcignaaaGreatDoor
end

section
namespace Go.Proofs.YtellaeihcignaaaGreatDoor
open Go.RowKit E




/-- What the example's heap has when so many were pushed, and when so many were taken out. -/
def sM : Nat → List E
  | 0 => []
  | 1 => [⟨3, 0, 0⟩]
  | 2 => [⟨1, 1, 1⟩, ⟨3, 0, 0⟩]
  | 3 => [⟨1, 1, 1⟩, ⟨3, 0, 0⟩, ⟨3, 2, 2⟩]
  | _ => [⟨1, 1, 1⟩, ⟨2, 3, 3⟩, ⟨3, 0, 0⟩, ⟨3, 2, 2⟩]
def sD : Nat → List E
  | 0 => [⟨1, 1, 1⟩, ⟨2, 3, 3⟩, ⟨3, 0, 0⟩, ⟨3, 2, 2⟩]
  | 1 => [⟨2, 3, 3⟩, ⟨3, 0, 0⟩, ⟨3, 2, 2⟩]
  | 2 => [⟨3, 0, 0⟩, ⟨3, 2, 2⟩]
  | 3 => [⟨3, 2, 2⟩]
  | _ => []


end Go.Proofs.YtellaeihcignaaaGreatDoor
end
end
