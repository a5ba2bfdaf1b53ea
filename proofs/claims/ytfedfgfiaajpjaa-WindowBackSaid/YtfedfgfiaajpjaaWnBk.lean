/-
  WindowBack: plain facts: a window taken, and let go.
-/
import Derived.Test.YtfedfgfiaajpjaaWnP
set_option linter.unusedVariables false
set_option maxRecDepth 100000
namespace Go.Proofs.Ytfedfgfiaajpjaa.Wn

theorem ins_take (L : List (Int × Int)) (k : Nat) (p : Int × Int) (h : k ≤ L.length) : (insAt L k p).take k = L.take k := by
  unfold insAt
  rw [List.append_assoc, List.take_append_of_le_length (by simp; omega), List.take_take, Nat.min_self]
theorem ins_drop (L : List (Int × Int)) (k : Nat) (p : Int × Int) (h : k ≤ L.length) : (insAt L k p).drop (k + 1) = L.drop k := by
  unfold insAt
  exact List.drop_left' (by simp; omega)
theorem ins_del (L : List (Int × Int)) (k : Nat) (p : Int × Int) (h : k ≤ L.length) : (insAt L k p).take k ++ (insAt L k p).drop (k + 1) = L := by
  rw [ins_take L k p h, ins_drop L k p h, List.take_append_drop]
theorem ins_get (L : List (Int × Int)) (k : Nat) (p : Int × Int) (h : k ≤ L.length) : (insAt L k p).getD k (0, 0) = p := by
  unfold insAt
  rw [List.getD_eq_getElem?_getD, List.append_assoc, List.getElem?_append_right (by simp; omega)]
  simp [Nat.min_eq_left h]
theorem ins_below (L : List (Int × Int)) (k : Nat) (p : Int × Int) (h : k ≤ L.length) (t : Nat) (ht : t < k) : (insAt L k p).getD t (0, 0) = L.getD t (0, 0) := by
  unfold insAt
  rw [List.getD_eq_getElem?_getD, List.getD_eq_getElem?_getD, List.append_assoc, List.getElem?_append_left (by simp; omega), List.getElem?_take, if_pos ht]
/-- In the window that was taken lies just what lies in it. -/
theorem ins_plc (L : List (Int × Int)) (a b m : Int) (h1 : a ≤ m) (h2 : m < b) : plc (insAt L (plc L a) (a, b)) m = plc L a := by
  have hk := plc_le L a
  refine plc_eq _ m (plc L a) (by rw [insAt_length _ _ _ hk]; omega) (fun t ht => ?_) (fun _ => ?_)
  · rw [ins_below L _ _ hk t ht]
    have := plc_below t ht
    omega
  · rw [ins_get L _ _ hk]
    exact h2
theorem isT_ins (L : List (Int × Int)) (a b m : Int) (h1 : a ≤ m) (h2 : m < b) : isT (insAt L (plc L a) (a, b)) m = false := by
  have hk := plc_le L a
  have e : isF (insAt L (plc L a) (a, b)) m = false := by
    unfold isF
    rw [ins_plc L a b m h1 h2, ins_get L _ _ hk, insAt_length _ _ _ hk]
    simp
    omega
  unfold isT
  rw [e, Bool.and_false]
theorem tk_ins (L : List (Int × Int)) (a b : Int) (hr : rgt a b = true) (hab : a < b) : tk (insAt L (plc L a) (a, b)) a b = (3, insAt L (plc L a) (a, b)) := by
  have hk := plc_le L a
  unfold tk
  rw [hr, if_neg (by simp), if_pos]
  rw [ins_plc L a b a (Int.le_refl _) hab, ins_get L _ _ hk, insAt_length _ _ _ hk]
  exact ⟨by omega, hab⟩
theorem dr_ins (L : List (Int × Int)) (a b : Int) (hab : a < b) : dr (insAt L (plc L a) (a, b)) a b = (0, L) := by
  have hk := plc_le L a
  unfold dr
  rw [ins_plc L a b a (Int.le_refl _) hab, if_pos ⟨by rw [insAt_length _ _ _ hk]; omega, ins_get L _ _ hk⟩, ins_del L _ _ hk]
theorem dr_gone (L : List (Int × Int)) (a b : Int) (hab : a < b) (h : plc L a < L.length → b ≤ (L.getD (plc L a) (0, 0)).1) : dr L a b = (2, L) := by
  unfold dr
  rw [if_neg]
  rintro ⟨h1, h2⟩
  have := h h1
  rw [h2] at this
  simp at this
  omega
end Go.Proofs.Ytfedfgfiaajpjaa.Wn
