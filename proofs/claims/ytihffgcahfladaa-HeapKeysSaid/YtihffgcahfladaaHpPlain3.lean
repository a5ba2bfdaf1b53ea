/-
  Sorted items: which they are, in which order, and that they are sorted as they are.
-/
import Derived.Test.YtihffgcahfladaaHpR1
set_option linter.unusedVariables false
namespace Go.Proofs.Ytihffgcahfladaa
open E

theorem mkE_sorted (f : Nat → Int × Int) : ∀ n, Sorted (mkE f n) ∧ ∀ e ∈ mkE f n, ∃ j, j < n ∧ e = ⟨(f j).1, (f j).2, j⟩
  | 0 => ⟨by simp [mkE, Sorted], by simp [mkE]⟩
  | n + 1 => by
    obtain ⟨h1, h2⟩ := mkE_sorted f n
    refine ⟨ins_sorted _ _ h1 (fun y hy => ?_), fun e he => ?_⟩
    · obtain ⟨j, hj, rfl⟩ := h2 y hy
      show (j : Int) < n; omega
    · rcases (mem_ins _ _ _).1 he with rfl | he
      · exact ⟨n, by omega, rfl⟩
      · obtain ⟨j, hj, e⟩ := h2 e he
        exact ⟨j, by omega, e⟩
theorem outs_get (f : Nat → Int × Int) (n i : Nat) (hi : i < n) : (outs f n).getD i (0, 0) = ((gt (mkE f n) i).k, (gt (mkE f n) i).v) := by
  have hl := mkE_length f n
  rw [gt_get (by omega)]
  simp [outs, List.getD_eq_getElem?_getD, hl, hi]
/-- What comes out at a place is an item of the list; what comes out ahead has a lesser key, or a like one and stood ahead. -/
theorem outs_is (f : Nat → Int × Int) (n i : Nat) (hi : i < n) : ∃ j, j < n ∧ (outs f n).getD i (0, 0) = f j ∧ (gt (mkE f n) i).t = j := by
  have hl := mkE_length f n
  obtain ⟨j, hj, he⟩ := (mkE_sorted f n).2 (gt (mkE f n) i) (by rw [gt_get (by omega)]; exact List.getElem_mem _)
  exact ⟨j, hj, by rw [outs_get f n i hi, he], by rw [he]⟩
theorem outs_lt (f : Nat → Int × Int) (n i : Nat) (hi : i + 1 < n) : lt (gt (mkE f n) i) (gt (mkE f n) (i + 1)) = true := by
  have hl := mkE_length f n
  rw [gt_get (by omega), gt_get (by omega)]
  exact (List.pairwise_iff_getElem.1 (mkE_sorted f n).1) i (i + 1) (by omega) (by omega) (by omega)

/-- The items' values are their places: what comes out. -/
theorem outs_places (f : Nat → Int × Int) (n : Nat) (hf : ∀ i, i < n → (f i).2 = i) (i : Nat) (hi : i < n) :
    (∃ j, j < n ∧ (outs f n).getD i (0, 0) = f j ∧ ((outs f n).getD i (0, 0)).2 = j) ∧
    (i + 1 < n → ((outs f n).getD i (0, 0)).1 < ((outs f n).getD (i + 1) (0, 0)).1 ∨ (((outs f n).getD i (0, 0)).1 = ((outs f n).getD (i + 1) (0, 0)).1 ∧ ((outs f n).getD i (0, 0)).2 < ((outs f n).getD (i + 1) (0, 0)).2)) := by
  have key : ∀ i, i < n → ((outs f n).getD i (0, 0)).2 = (gt (mkE f n) i).t := fun i hi => by
    obtain ⟨j, hj, h1, h2⟩ := outs_is f n i hi
    rw [h1, h2, hf j hj]
  refine ⟨?_, fun h => ?_⟩
  · obtain ⟨j, hj, h1, h2⟩ := outs_is f n i hi
    exact ⟨j, hj, h1, by rw [h1, hf j hj]⟩
  · have := (lt_true _ _).1 (outs_lt f n i h)
    rw [key i hi, key (i + 1) h, outs_get f n i hi, outs_get f n (i + 1) h]
    exact this

theorem insI_last (x : Int × Int) : ∀ l : List (Int × Int), (∀ y ∈ l, y.1 ≤ x.1) → insI x l = l ++ [x]
  | [], _ => rfl
  | a :: l, h => by
    have := h a (by simp)
    simp [insI, this, insI_last x l (fun y hy => h y (by simp [hy]))]
/-- Items whose keys do not fall are sorted as they are. -/
theorem outs_self (l : List (Int × Int)) (h : ∀ i j, i < j → j < l.length → (l.getD i (0, 0)).1 ≤ (l.getD j (0, 0)).1) : ∀ n, n ≤ l.length → outs (fun i => l.getD i (0, 0)) n = l.take n
  | 0, _ => rfl
  | n + 1, hn => by
    rw [outs_next, outs_self l h n (by omega), insI_last]
    · have hg : l.getD n (0, 0) = l[n] := by rw [List.getD_eq_getElem?_getD, List.getElem?_eq_getElem (by omega)]; rfl
      rw [hg, List.take_succ_eq_append_getElem (by omega)]
    · intro y hy
      obtain ⟨i, hi, rfl⟩ := List.getElem_of_mem hy
      simp at hi
      have := h i n (by omega) (by omega)
      rw [List.getElem_take]
      have hg : l.getD i (0, 0) = l[i] := by rw [List.getD_eq_getElem?_getD, List.getElem?_eq_getElem (by omega)]; rfl
      rw [← hg]; exact this
theorem outs_keys_le (f : Nat → Int × Int) (n : Nat) : ∀ i j, i < j → j < (outs f n).length → ((outs f n).getD i (0, 0)).1 ≤ ((outs f n).getD j (0, 0)).1 := by
  intro i j hij hj
  rw [outs_length] at hj
  have hl := mkE_length f n
  have := (List.pairwise_iff_getElem.1 (mkE_sorted f n).1) i j (by omega) (by omega) hij
  rw [outs_get f n i (by omega), outs_get f n j hj, gt_get (by omega), gt_get (by omega)]
  have := (lt_true _ _).1 this
  show _ ≤ _; omega
/-- What was sorted is sorted as it is. -/
theorem outs_again (f : Nat → Int × Int) (n i : Nat) : (outs (fun i => (outs f n).getD i (0, 0)) n).getD i (0, 0) = (outs f n).getD i (0, 0) := by
  have := outs_self (outs f n) (outs_keys_le f n) n (by rw [outs_length]; exact Nat.le_refl _)
  rw [this, List.take_of_length_le (by rw [outs_length]; exact Nat.le_refl _)]

theorem mkE_perm (f : Nat → Int × Int) : ∀ n, ((mkE f n).map E.k).Perm ((List.range n).map fun i => (f i).1)
  | 0 => List.Perm.refl _
  | n + 1 => by
    rw [List.range_succ, List.map_append]
    refine ((ins_perm _ _).map E.k).trans ?_
    simp only [List.map_cons]
    exact ((mkE_perm f n).cons _).trans (List.perm_append_comm (l₁ := [(f n).1]) (l₂ := (List.range n).map fun i => (f i).1))
theorem sorted_unique : ∀ (a b : List Int), a.Perm b → a.Pairwise (fun x y => x ≤ y) → b.Pairwise (fun x y => x ≤ y) → a = b
  | [], b, h, _, _ => by simpa using h
  | x :: a, [], h, _, _ => by simpa using h.symm
  | x :: a, y :: b, h, ha, hb => by
    rw [List.pairwise_cons] at ha hb
    have h1 : x ∈ y :: b := h.mem_iff.1 (by simp)
    have h2 : y ∈ x :: a := h.mem_iff.2 (by simp)
    have e : x = y := by
      rcases List.mem_cons.1 h1 with e | m1
      · exact e
      · rcases List.mem_cons.1 h2 with e | m2
        · exact e.symm
        · have := hb.1 x m1; have := ha.1 y m2; omega
    subst e
    rw [sorted_unique a b h.cons_inv ha.2 hb.2]
/-- The keys as they come out hang on what the items are alone. -/
theorem outs_keys (f g : Nat → Int × Int) (n : Nat) (h : ((List.range n).map fun i => (f i).1).Perm ((List.range n).map fun i => (g i).1)) (i : Nat) (hi : i < n) : ((outs f n).getD i (0, 0)).1 = ((outs g n).getD i (0, 0)).1 := by
  have srt : ∀ f : Nat → Int × Int, ((mkE f n).map E.k).Pairwise (fun x y => x ≤ y) := fun f => by
    rw [List.pairwise_map]
    exact (mkE_sorted f n).1.imp (fun {a b} hab => by have := (lt_true _ _).1 hab; omega)
  have e := sorted_unique _ _ ((mkE_perm f n).trans (h.trans (mkE_perm g n).symm)) (srt f) (srt g)
  have hl := mkE_length f n
  have hl2 := mkE_length g n
  have ei : ((mkE f n).map E.k)[i]? = ((mkE g n).map E.k)[i]? := by rw [e]
  rw [outs_get f n i hi, outs_get g n i hi, gt_get (by omega), gt_get (by omega)]
  simpa [hl, hl2, hi] using ei

end Go.Proofs.Ytihffgcahfladaa
