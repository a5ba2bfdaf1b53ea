/-
  Layer 6: Same; the examples.
-/
import Derived.Test.YtinkpeliinofoaaDoorWnF
set_option linter.unusedVariables false
set_option maxRecDepth 100000
namespace Go.Proofs.YtinkpeliinofoaaDoor.Wn
open Go.RowKit Go.Maps

theorem ext_getD {L M : List (Int × Int)} (hl : L.length = M.length) (h : ∀ t, t < L.length → L.getD t (0, 0) = M.getD t (0, 0)) : L = M :=
  List.ext_getElem hl fun i h1 h2 => by
    have := h i h1
    rw [List.getD_eq_getElem?_getD, List.getD_eq_getElem?_getD, List.getElem?_eq_getElem h1, List.getElem?_eq_getElem h2] at this
    simpa using this
theorem Wt.two (w : World) (a b c d : Int) : Wt (w.alloc (.cells #[.int .i64 a, .int .i64 b, .int .i64 c, .int .i64 d] 36)).heap.size (w.alloc (.cells #[.int .i64 a, .int .i64 b, .int .i64 c, .int .i64 d] 36)) (some ⟨w.heap.size, 0, none⟩) 2 2 [(a, b), (c, d)] := by
  refine ⟨rfl, Nat.le_refl _, by unfold maxLen; omega, fun h => (by cases h), fun _ => ⟨w.heap.size, 0, rfl, by simp, fun j hj => ?_⟩⟩
  rcases (by omega : j = 0 ∨ j = 1) with rfl | rfl
  · exact ⟨by simp [World.cell?_alloc_new], by simp [World.cell?_alloc_new]⟩
  · exact ⟨by simp [World.cell?_alloc_new], by simp [World.cell?_alloc_new]⟩
theorem frees_shown : frees [(3, 7), (7, 9)] = [(0, 3), (9, 1048576)] := by decide
theorem Tab.below {w w' : World} {base tb N : Nat} {mv : Option Nat} {T : Int → List (Int × Int)} {gb : Int → Nat} {F' : Nat → Prop} (h : Tab w base tb N mv T gb) (ht : Turn (TF tb mv T gb) F' w w') : Below base w w' :=
  ht.below base (by have h1 := h.lo; have h2 := h.cells.2.2; omega) (fun k hk => (h.foot k hk).1)
end Go.Proofs.YtinkpeliinofoaaDoor.Wn
