/-
  Layer 12: a queue and the document's queue beside each other, in one memory.
-/
import Derived.Test.YtgeahckblgpnmaaAgU
set_option linter.unusedVariables false
set_option maxRecDepth 100000
namespace Go.Proofs.Ytgeahckblgpnmaa
namespace Ag
open Go.RowKit Go.Maps Bk

structure Bo (w0 : World) (g rg : Nat) (v rv : Value) (s : Int) (d : Nat) (L : List Wr) (d2 : Nat) (L2 : List Wr) (w : World) : Prop where
  q : QAt w g g v s d L
  r : RQ w rg rg rv s d2 L2
  ap : ∀ k, QF g v k → ¬ QF rg rv k
  lo : w0.heap.size ≤ g ∧ w0.heap.size ≤ rg
  be : Below w0.heap.size w0 w
section
variable {w0 w w' : World} {g rg : Nat} {v rv : Value} {s : Int} {d d2 : Nat} {L L2 : List Wr}
theorem Bo.later (h : Bo w0 g rg v rv s d L d2 L2 w) (hb : Below w.heap.size w w') : Bo w0 g rg v rv s d L d2 L2 w' :=
  ⟨h.q.later hb, h.r.later hb, h.ap, h.lo, h.be.trans (hb.mono h.be.size)⟩
theorem RQ.keep {F' : Nat → Prop} (h : RQ w rg rg rv s d2 L2) (ht : Turn (QF rg rv) F' w w') {k : Nat} {cs : Array Value} {t : TypeId} {fz : Nat × Nat} (hk : w.heap[k]? = some (.cells cs t fz)) (h1 : t ≠ 31) (h2 : t ≠ 46) : w'.heap[k]? = some (.cells cs t fz) := by
  refine (ht.block k (lt_of_heap hk) ?_).trans hk
  rintro (rfl | e)
  · have := hk.symm.trans h.box
    injection this with this
    injection this with _ this _
    exact h1 this
  · obtain ⟨_, _, c, fz', hh⟩ := h.own.kind k e
    have := hk.symm.trans hh
    injection this with this
    injection this with _ this _
    exact h2 this
/-- The box of an act. -/
def Ax (D : Nat) (q : Nat) (x : Int) (w : World) : Prop := w.heap[D]? = some (.cells #[.int .u8 (q : Int), .int .i64 x] 34 (0, 0))
theorem Ax.cells {D q : Nat} {x : Int} {w : World} (h : Ax D q x w) : w.cell? ⟨D, 0, none⟩ = some (.int .u8 (q : Int)) ∧ w.cell? ⟨D, 1, none⟩ = some (.int .i64 x) :=
  ⟨by rw [cell_of_row w D 0 _ _ _ h]; rfl, by rw [cell_of_row w D 1 _ _ _ h]; rfl⟩
theorem Ax.later {D q : Nat} {x : Int} {w w' : World} (h : Ax D q x w) (hb : Below w.heap.size w w') : Ax D q x w' := (hb.block D (lt_of_heap h)).trans h
/-- An act of the program's queue. -/
theorem Bo.pro {a : Value} {d' : Nat} {L' : List Wr} {e : Ending} {D q : Nat} {x : Int} (h : Bo w0 g rg v rv s d L d2 L2 w) (hx : Ax D q x w) (ht : ActTold a g g v s d' L' w e w') : e = .returned a ∧ ∃ v', Bo w0 g rg v' rv s d' L' d2 L2 w' ∧ Ax D q x w' := by
  obtain ⟨v', h1, h2, h3⟩ := ht
  refine ⟨h1, v', ⟨h2, h.r.turn h3 (fun k hk hF => h.ap k hF hk), fun k hk hk2 => ?_, h.lo, h.be.trans (h3.below _ h.be.size (fun k hk => Nat.le_trans h.lo.1 (h.q.blocks k hk).1))⟩, h.q.keep h3 hx (by decide) (by decide)⟩
  rcases h3.foot k hk with q | q
  · exact h.ap k q hk2
  · have := (h.r.blocks k hk2).2; omega
/-- An act of the document's. -/
theorem Bo.ref {a : Value} {d' : Nat} {L' : List Wr} {e : Ending} {D q : Nat} {x : Int} (h : Bo w0 g rg v rv s d L d2 L2 w) (hx : Ax D q x w) (ht : RTold a rg rg rv s d' L' w e w') : e = .returned a ∧ ∃ rv', Bo w0 g rg v rv' s d L d' L' w' ∧ Ax D q x w' := by
  obtain ⟨v', h1, h2, h3⟩ := ht
  refine ⟨h1, v', ⟨h.q.turn h3 (fun k hk hF => h.ap k hk hF), h2, fun k hk hk2 => ?_, h.lo, h.be.trans (h3.below _ h.be.size (fun k hk => Nat.le_trans h.lo.2 (h.r.blocks k hk).1))⟩, h.r.keep h3 hx (by decide) (by decide)⟩
  rcases h3.foot k hk2 with q | q
  · exact h.ap k hk q
  · have := (h.q.blocks k hk).2; omega
end
end Ag
end Go.Proofs.Ytgeahckblgpnmaa
