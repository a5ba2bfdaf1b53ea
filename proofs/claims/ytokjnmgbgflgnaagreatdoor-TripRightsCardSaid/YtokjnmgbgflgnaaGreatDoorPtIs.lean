/-
  Layer 5: Is.
-/
import Derived.Test.YtokjnmgbgflgnaaGreatDoorPtArgs
import Derived.Deep.RegionHeld3
import Derived.BigQuiet
set_option linter.unusedVariables false
set_option maxRecDepth 100000
namespace Go.Proofs.YtokjnmgbgflgnaaGreatDoor
open Go.RowKit Fl Pt

/-- The first so many of a way are a way. -/
theorem chI_front (nx : Nat → List Nat) : ∀ (p q : List Int) (a : Nat), chI nx a (p ++ q) = true → chI nx a p = true
  | [], _, _, _ => rfl
  | x :: p, q, a, h => by
    have h' : ((nx a).any (fun y => ((y : Int) == x)) && chI nx x.toNat (p ++ q)) = true := h
    rw [Bool.and_eq_true] at h'
    show ((nx a).any (fun y => ((y : Int) == x)) && chI nx x.toNat p) = true
    rw [h'.1, chI_front nx p q _ h'.2]; rfl
theorem il_front (f : Nat → Int) {m n : Nat} (h : m ≤ n) : ∃ q, il f n = il f m ++ q := by
  refine ⟨(il f n).drop m, ?_⟩
  have : il f m = (il f n).take m := by
    unfold il
    rw [← List.map_take, List.take_range, Nat.min_eq_left h]
  rw [this, List.take_append_drop]
/-- Where one is behind so many cells. -/
def atI (a : Nat) (f : Nat → Int) (m : Nat) : Nat := ((il f m).getLast?.map Int.toNat).getD a
theorem atI_zero (a : Nat) (f : Nat → Int) : atI a f 0 = a := rfl
theorem atI_succ (a : Nat) (f : Nat → Int) (m : Nat) : atI a f (m + 1) = (f m).toNat := by unfold atI; rw [il_snoc]; simp
theorem chI_succ (nx : Nat → List Nat) (a : Nat) (f : Nat → Int) (m : Nat) : chI nx a (il f (m + 1)) = (chI nx a (il f m) && (nx (atI a f m)).any (fun y => ((y : Int) == f m))) := by
  rw [il_snoc, chI_snoc]; rfl
theorem contains_nats (xs : List Nat) (n : Nat) (x : Int) (h : n = xs.length) : (il (fun j => ((xs.getD j 0 : Nat) : Int)) n).contains x = xs.any (fun y => ((y : Int) == x)) := by
  subst h
  rw [Bool.eq_iff_iff, List.contains_iff_mem, List.any_eq_true]
  constructor
  · intro h
    simp only [il, List.mem_map, List.mem_range] at h
    obtain ⟨j, hj, rfl⟩ := h
    exact ⟨xs.getD j 0, by rw [List.getD, List.getElem?_eq_getElem hj]; exact List.getElem_mem hj, by simp⟩
  · rintro ⟨y, hy, e⟩
    obtain ⟨j, hj, rfl⟩ := List.getElem_of_mem hy
    simp only [il, List.mem_map, List.mem_range]
    refine ⟨j, hj, ?_⟩
    rw [List.getD, List.getElem?_eq_getElem hj]
    simpa using e
def IsWay (W H : Int) (s : ByteArray) (a : Int) (B : Nat → Bool) (p : List Int) : Prop := OnFloor W H s a ∧ chI (nx5 W.toNat H.toNat (at_ s) a.toNat B) a.toNat p = true

end Go.Proofs.YtokjnmgbgflgnaaGreatDoor
