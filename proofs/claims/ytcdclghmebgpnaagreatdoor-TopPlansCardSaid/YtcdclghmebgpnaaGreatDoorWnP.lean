/-
  Layer 6: any act.
-/
import Derived.Test.YtcdclghmebgpnaaGreatDoorWnO
set_option linter.unusedVariables false
set_option maxRecDepth 100000
namespace Go.Proofs.YtcdclghmebgpnaaGreatDoor.Wn
open Go.RowKit Go.Maps

/-- An act: its answer, and the windows behind it. -/
def act (T : Int → List (Int × Int)) (r : Nat) (x a b : Int) : Int × (Int → List (Int × Int)) :=
  if r = 0 then ((tk (T x) a b).1, upd T x (tk (T x) a b).2) else if r = 1 then ((dr (T x) a b).1, upd T x (dr (T x) a b).2) else (0, fun y => fg (T y) a)
theorem upd_ord {T : Int → List (Int × Int)} {x : Int} {L : List (Int × Int)} (h : ∀ y, Ordw 0 (T y)) (hL : Ordw 0 L) (y : Int) : Ordw 0 (upd T x L y) := by
  unfold upd
  split
  · exact hL
  · exact h y
theorem act_ord {T : Int → List (Int × Int)} {r : Nat} {x a b : Int} (h : ∀ y, Ordw 0 (T y)) : ∀ y, Ordw 0 ((act T r x a b).2 y) := by
  intro y
  unfold act
  split
  · exact upd_ord h (tk_ord (h x)) y
  · split
    · exact upd_ord h (dr_ord (h x)) y
    · exact fg_ord a (h y)
theorem Acted.from {w w1 w' : World} {base tb N : Nat} {mv : Option Nat} {T T' : Int → List (Int × Int)} {gb : Int → Nat} (h : Acted base tb N mv T gb T' w1 w') (hb : Below w.heap.size w w1) (hl : ∀ k, TF tb mv T gb k → k < w.heap.size) : Acted base tb N mv T gb T' w w' := by
  obtain ⟨mv', gb', h1, h2⟩ := h
  exact ⟨mv', gb', h1, (Turn.ofBelow hb _).trans h2⟩
end Go.Proofs.YtcdclghmebgpnaaGreatDoor.Wn
