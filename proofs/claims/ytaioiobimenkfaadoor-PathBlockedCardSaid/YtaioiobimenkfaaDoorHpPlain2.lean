/-
  What a tree of entries has, in order: a list in which each is before all that stand behind it.
-/
import Derived.Test.YtaioiobimenkfaaDoorHpPlain
set_option linter.unusedVariables false
set_option maxRecDepth 100000
namespace Go.Proofs.YtaioiobimenkfaaDoor
open E

/-- An entry is laid behind all whose keys are no greater. -/
def ins (x : E) : List E → List E
  | [] => [x]
  | a :: l => if a.k ≤ x.k then a :: ins x l else x :: a :: l
def Sorted (M : List E) : Prop := M.Pairwise fun a b => lt a b = true

theorem ins_perm (x : E) : ∀ M : List E, (ins x M).Perm (x :: M)
  | [] => List.Perm.refl _
  | a :: l => by
    unfold ins
    split
    · exact ((ins_perm x l).cons a).trans (List.Perm.swap x a l)
    · exact List.Perm.refl _
theorem ins_length (x : E) (M : List E) : (ins x M).length = M.length + 1 := (ins_perm x M).length_eq
theorem mem_ins (x y : E) (M : List E) : y ∈ ins x M ↔ y = x ∨ y ∈ M := by rw [(ins_perm x M).mem_iff]; simp
theorem ins_sorted (x : E) : ∀ M : List E, Sorted M → (∀ y ∈ M, y.t < x.t) → Sorted (ins x M)
  | [], _, _ => by simp [ins, Sorted]
  | a :: l, h, ht => by
    unfold Sorted at h ⊢
    rw [List.pairwise_cons] at h
    unfold ins
    split
    · rename_i hk
      rw [List.pairwise_cons]
      refine ⟨fun y hy => ?_, ins_sorted x l h.2 (fun y hy => ht y (by simp [hy]))⟩
      rcases (mem_ins x y l).1 hy with rfl | hy
      · rw [lt_true]; have := ht a (by simp); omega
      · exact h.1 y hy
    · rename_i hk
      rw [List.pairwise_cons]
      refine ⟨fun y hy => ?_, by rw [List.pairwise_cons]; exact h⟩
      rcases List.mem_cons.1 hy with rfl | hy
      · rw [lt_true]; omega
      · have := (lt_true _ _).1 (h.1 y hy); rw [lt_true]; omega

/-- A tree has, in order, the entries M, of which each was pushed ahead of the n-th. -/
structure Abs (es M : List E) (n : Nat) : Prop where
  hp : Hp es
  perm : es.Perm M
  sorted : Sorted M
  turns : ∀ x ∈ M, x.t < (n : Int)

theorem Abs.nil : Abs [] [] 0 := ⟨fun i h1 h2 => by simp at h2, List.Perm.refl _, by simp [Sorted], by simp⟩
theorem Abs.length {es M : List E} {n : Nat} (h : Abs es M n) : es.length = M.length := h.perm.length_eq

theorem gt_app_left (es : List E) (x : E) (j : Nat) (h : j < es.length) : gt (es ++ [x]) j = gt es j := by
  unfold gt; rw [List.getD_eq_getElem?_getD, List.getD_eq_getElem?_getD, List.getElem?_append_left h]
theorem gt_app_last (es : List E) (x : E) : gt (es ++ [x]) es.length = x := by
  unfold gt; rw [List.getD_eq_getElem?_getD]; simp

theorem Abs.push {es M l' : List E} {n : Nat} {x : E} (h : Abs es M n) (hx : x.t = n) (hs : Stl up (es ++ [x]) es.length l') : Abs l' (ins x M) (n + 1) := by
  have hi : UpInv (es ++ [x]) es.length := by
    refine ⟨by simp, ?_, ?_⟩
    · intro j h0 hj hne
      simp at hj
      rw [gt_app_left _ _ _ (by omega), gt_app_left _ _ _ (by omega)]
      exact h.hp j h0 (by omega)
    · intro j h0 hj hp h1
      simp at hj
      omega
  obtain ⟨h1, h2⟩ := up_settles hi hs
  refine ⟨h1, ?_, ins_sorted x M h.sorted (fun y hy => by rw [hx]; exact h.turns y hy), ?_⟩
  · refine h2.trans (List.Perm.trans ?_ (ins_perm x M).symm)
    exact (List.perm_append_comm (l₁ := es) (l₂ := [x])).trans (h.perm.cons x)
  · intro y hy
    rcases (mem_ins x y M).1 hy with rfl | hy
    · omega
    · have := h.turns y hy; omega

theorem Abs.root {es M : List E} {n : Nat} {m : E} (h : Abs es (m :: M) n) : gt es 0 = m := by
  have hl := h.length
  simp at hl
  have hm : gt es 0 ∈ m :: M := h.perm.mem_iff.1 (by rw [gt_get (by omega)]; exact List.getElem_mem _)
  rcases List.mem_cons.1 hm with e | hmem
  · exact e
  · have h1 := (List.pairwise_cons.1 h.sorted).1 _ hmem
    obtain ⟨i, hi, he⟩ := List.getElem_of_mem (h.perm.mem_iff.2 (List.mem_cons_self (a := m) (l := M)))
    have h2 := h.hp.root i hi
    rw [gt_get hi, he] at h2
    have := (lt_true _ _).1 h1
    unfold le at h2
    omega

theorem gt_take (l : List E) (k j : Nat) (h : j < k) : gt (l.take k) j = gt l j := by
  unfold gt; rw [List.getD_eq_getElem?_getD, List.getD_eq_getElem?_getD, List.getElem?_take]; simp [h]

theorem pop_perm : ∀ (es : List E) (k : Nat), es.length = k + 1 → (gt es 0 :: (es.set 0 (gt es k)).take k).Perm es
  | [], k, h => by simp at h
  | [a], k, h => by
    simp at h
    subst h
    simp [gt]
  | a :: b :: t, k, h => by
    simp at h
    subst h
    have e1 : gt (a :: b :: t) 0 = a := rfl
    have e2 : gt (a :: b :: t) (t.length + 1) = (b :: t).getLast (by simp) := by
      rw [gt_get (by simp), List.getLast_eq_getElem]; simp
    rw [e1, e2]
    refine List.Perm.cons a ?_
    simp only [List.set_cons_zero, List.take_succ_cons]
    have e3 : (b :: t).take t.length = (b :: t).dropLast := by rw [List.dropLast_eq_take]; simp
    rw [e3]
    have e4 := List.dropLast_concat_getLast (l := b :: t) (by simp)
    have p := List.perm_append_comm (l₁ := (b :: t).dropLast) (l₂ := [(b :: t).getLast (by simp)])
    rw [e4] at p
    exact p.symm

theorem Abs.pop {es M l' : List E} {n k : Nat} {m : E} (h : Abs es (m :: M) n) (hk : es.length = k + 1) (hs : Stl dn ((es.set 0 (gt es k)).take k) 0 l') : Abs l' M n := by
  have hi : DnInv ((es.set 0 (gt es k)).take k) 0 := by
    refine ⟨?_, fun j _ _ _ h0 => by omega⟩
    intro j h0 hj hne
    simp at hj
    rw [gt_take _ _ _ (by omega), gt_take _ _ _ (by omega), gt_set _ _ _ _ (by omega), gt_set _ _ _ _ (by omega)]
    rw [if_neg (by omega), if_neg (by omega)]
    exact h.hp j h0 (by omega)
  obtain ⟨h1, h2⟩ := dn_settles hi hs
  have p := pop_perm es k hk
  rw [h.root] at p
  exact ⟨h1, h2.trans (List.Perm.cons_inv (p.trans h.perm)), (List.pairwise_cons.1 h.sorted).2, fun x hx => h.turns x (by simp [hx])⟩

end Go.Proofs.YtaioiobimenkfaaDoor
