/-
  Layer 8: one of one's own claims is written.
-/
import Derived.Test.YtljmigomhoefpaaBkJ
import Derived.Deep.CutRange
import Derived.Deep.DeepCutAuto
set_option linter.unusedVariables false
set_option maxRecDepth 100000
namespace Go.Proofs.Ytljmigomhoefpaa.Bk
open Go.RowKit

theorem own_put {w : World} {base k g n m c x : Nat} {e : TypeId} {xs : List Value} (h : w.ownsRow base e k (.slice (some ⟨g, 0, none⟩) m c) n xs) (hx : x < xs.length) (v : Value) : (w.setCell ⟨g, x, none⟩ v).ownsRow base e k (.slice (some ⟨g, 0, none⟩) m c) n (xs.set x v) := by
  refine ⟨by rw [List.length_set]; exact h.1, ?_⟩
  rcases h.2 with ⟨q, _⟩ | ⟨g', cap, cur, q, hg, hh, h1, h2, h3, h4⟩
  · cases q
  · injection q with q1 q2 q3
    injection q1 with q1
    injection q1 with q1
    subst q1 q3
    refine .inr ⟨g, c, cur.setIfInBounds x v, by rw [q2], hg, heap_setCell_same w g x cur e v hh, h1, h2, by simpa using h3, ?_⟩
    rw [Array.toList_setIfInBounds, List.take_set, h4]
theorem pcl_set0 : ∀ (P : List (Value × Value)) (i : Nat) (p : Value × Value) (v : Value), P[i]? = some p → (pcl P).set (i * 2) v = pcl (P.set i (v, p.2))
  | [], i, p, v, h => by simp at h
  | x :: l, 0, p, v, h => by simp at h; subst h; simp [pcl]
  | x :: l, i + 1, p, v, h => by
    have ih := pcl_set0 l i p v (by simpa using h)
    rw [show (i + 1) * 2 = i * 2 + 1 + 1 by omega]
    simp [pcl, ih]
theorem pcl_set1 : ∀ (P : List (Value × Value)) (i : Nat) (p : Value × Value) (v : Value), P[i]? = some p → (pcl P).set (i * 2 + 1) v = pcl (P.set i (p.1, v))
  | [], i, p, v, h => by simp at h
  | x :: l, 0, p, v, h => by simp at h; subst h; simp [pcl]
  | x :: l, i + 1, p, v, h => by
    have ih := pcl_set1 l i p v (by simpa using h)
    rw [show (i + 1) * 2 + 1 = i * 2 + 1 + 1 + 1 by omega]
    simp [pcl, ih]
section
variable {w : World} {base g m c i : Nat} {P : List (Value × Value)} {p : Value × Value}
theorem Cw.put0 (h : Cw w base (.slice (some ⟨g, 0, none⟩) m c) P) (hp : P[i]? = some p) (v : Value) : Cw (w.setCell ⟨g, i * 2, none⟩ v) base (.slice (some ⟨g, 0, none⟩) m c) (P.set i (v, p.2)) := by
  have hi := (List.getElem?_eq_some_iff.1 hp).1
  have := own_put h (x := i * 2) (by rw [pcl_length]; omega) v
  rw [pcl_set0 P i p v hp] at this
  unfold Cw
  rw [List.length_set]
  exact this
theorem Cw.put1 (h : Cw w base (.slice (some ⟨g, 0, none⟩) m c) P) (hp : P[i]? = some p) (v : Value) : Cw (w.setCell ⟨g, i * 2 + 1, none⟩ v) base (.slice (some ⟨g, 0, none⟩) m c) (P.set i (p.1, v)) := by
  have hi := (List.getElem?_eq_some_iff.1 hp).1
  have := own_put h (x := i * 2 + 1) (by rw [pcl_length]; omega) v
  rw [pcl_set1 P i p v hp] at this
  unfold Cw
  rw [List.length_set]
  exact this
theorem Cw.cells (h : Cw w base (.slice (some ⟨g, 0, none⟩) m c) P) (hp : P[i]? = some p) : w.cell? ⟨g, i * 2, none⟩ = some p.1 ∧ w.cell? ⟨g, i * 2 + 1, none⟩ = some p.2 ∧ w.frozen? ⟨g, i * 2, none⟩ = false ∧ w.frozen? ⟨g, i * 2 + 1, none⟩ = false := by
  have hi := (List.getElem?_eq_some_iff.1 hp).1
  obtain ⟨q1, q2⟩ := pcl_get P i p hp
  have hm := h.gt.1
  unfold Cw at h
  subst hm
  refine ⟨?_, ?_, h.frozenAt _, h.frozenAt _⟩
  · rw [h.cellAt _ (by omega), q1]
  · rw [h.cellAt _ (by omega), q2]
end
theorem Cw.some {w : World} {base n c : Nat} {A : Option Addr} {P : List (Value × Value)} (h : Cw w base (.slice A n c) P) (hP : 0 < P.length) : ∃ g, A = Option.some ⟨g, 0, none⟩ ∧ base ≤ g ∧ g < w.heap.size := by
  have hl := World.ownsRow.lt h
  rcases h.2 with ⟨_, q⟩ | ⟨g, cap, cur, q, hg, _⟩
  · omega
  · injection q with q1 q2 q3
    subst q1
    exact ⟨g, rfl, hg, (hl g rfl).2⟩
/-- One's own claims, of which one is another one. -/
structure Yst (w0 : World) (g m c i : Nat) (P : List (Value × Value)) (D : Cm) (wy : World) : Prop where
  below : Below w0.heap.size w0 wy
  ex : ∃ q e, Cw wy w0.heap.size (.slice (some ⟨g, 0, none⟩) m c) (P.set i q) ∧ Rd w0.heap.size wy (P.set i q) (D.set i e)
theorem set_self {α : Type} {L : List α} {i : Nat} {x : α} (h : L[i]? = some x) : L.set i x = L := by
  obtain ⟨h1, h2⟩ := List.getElem?_eq_some_iff.1 h
  apply List.ext_getElem (by simp)
  intro j h3 h4
  rw [List.getElem_set]
  split
  · rename_i e; subst e; exact h2.symm
  · rfl
theorem Yst.start {w0 wy : World} {g m c i : Nat} {P : List (Value × Value)} {D : Cm} (hb : Below w0.heap.size w0 wy) (h : Cw wy w0.heap.size (.slice (some ⟨g, 0, none⟩) m c) P) (hr : Rd w0.heap.size wy P D) (hi : i < D.length) : Yst w0 g m c i P D wy := by
  have h1 : P[i]? = some (P[i]'(by rw [hr.1]; exact hi)) := List.getElem?_eq_getElem _
  have h2 : D[i]? = some (D[i]'hi) := List.getElem?_eq_getElem _
  exact ⟨hb, _, _, by rw [set_self h1]; exact h, by rw [set_self h1, set_self h2]; exact hr⟩
theorem Yst.later {w0 wy wz : World} {g m c i : Nat} {P : List (Value × Value)} {D : Cm} (h : Yst w0 g m c i P D wy) (hb : Below wy.heap.size wy wz) : Yst w0 g m c i P D wz := by
  obtain ⟨h1, q, e, h2, h3⟩ := h
  exact ⟨h1.trans (hb.mono h1.size), q, e, h2.later hb, h3.below (hb.mono h1.size)⟩
/-- Where nothing below is touched, what a pair of slices reads as stays. -/
theorem Rd.put {w : World} {base g x : Nat} {v : Value} {P : List (Value × Value)} {D : Cm} (h : Rd base w P D) (hg : base ≤ g) : Rd base (w.setCell ⟨g, x, none⟩ v) P D := h.below ((Below.refl base w).setCell hg v)
end Go.Proofs.Ytljmigomhoefpaa.Bk
