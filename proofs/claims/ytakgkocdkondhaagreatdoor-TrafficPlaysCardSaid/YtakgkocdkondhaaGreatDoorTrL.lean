/-
  Layer 10: what was made, act by act; that it is right.
-/
import Derived.Test.YtakgkocdkondhaaGreatDoorTrOne
set_option linter.unusedVariables false
set_option maxRecDepth 100000
namespace Go.Proofs.YtakgkocdkondhaaGreatDoor
namespace Tr
open Go.RowKit Fl Pt
open Bk (Gt)

theorem nearB_of {W H : Int} {s : ByteArray} {c : Int} {y : Nat} (h : y ∈ nears W H s c) : nearB W H s c (y : Int) = true := by
  unfold nearB il
  rw [List.contains_iff_mem]
  simp only [List.mem_map, List.mem_range]
  obtain ⟨j, hj, rfl⟩ := List.getElem_of_mem h
  exact ⟨j, hj, by rw [List.getD, List.getElem?_eq_getElem hj]; rfl⟩
theorem nearB_iff {W H : Int} {s : ByteArray} {c x : Int} : nearB W H s c x = true ↔ ∃ y, y ∈ nears W H s c ∧ x = (y : Int) := by
  constructor
  · intro h
    unfold nearB il at h
    rw [List.contains_iff_mem] at h
    simp only [List.mem_map, List.mem_range] at h
    obtain ⟨j, hj, e⟩ := h
    exact ⟨_, by rw [List.getD, List.getElem?_eq_getElem hj] at e; exact List.getElem_mem hj, by rw [← e, List.getD, List.getElem?_eq_getElem hj]; rfl⟩
  · rintro ⟨y, h, rfl⟩
    exact nearB_of h
end Tr
end Go.Proofs.YtakgkocdkondhaaGreatDoor
