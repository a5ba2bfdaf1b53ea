/-
  Layer 10: what was made, act by act; that it is right.
-/
import Derived.Test.YtokjnmgbgflgnaaGreatDoorTrK
set_option linter.unusedVariables false
set_option maxRecDepth 100000
namespace Go.Proofs.YtokjnmgbgflgnaaGreatDoor
namespace Tr
open Go.RowKit Fl Pt
open Bk (Gt)

theorem getD_app {α : Type} (l m : List α) (i : Nat) (d : α) : (l ++ m).getD i d = if i < l.length then l.getD i d else m.getD (i - l.length) d := by
  rw [List.getD, List.getElem?_append]
  split <;> rfl
/-- The acts of a trip, one by one. -/
theorem tripL_get (x y z : List Nat) (a b p : Int) (i : Nat) (h : i < x.length + y.length + z.length + 2) :
    (i < x.length ∧ (tripL x y z a b p).getD i (0, 0, 0) = (1, ((x.getD i 0 : Nat) : Int), 0)) ∨ (i = x.length ∧ (tripL x y z a b p).getD i (0, 0, 0) = (2, a, p)) ∨
    (∃ j, j < y.length ∧ i = x.length + 1 + j ∧ (tripL x y z a b p).getD i (0, 0, 0) = (1, ((y.getD j 0 : Nat) : Int), 0)) ∨ (i = x.length + y.length + 1 ∧ (tripL x y z a b p).getD i (0, 0, 0) = (3, b, p)) ∨
    (∃ j, j < z.length ∧ i = x.length + y.length + 2 + j ∧ (tripL x y z a b p).getD i (0, 0, 0) = (1, ((z.getD j 0 : Nat) : Int), 0)) := by
  unfold tripL
  rw [getD_app, gos_length]
  by_cases h1 : i < x.length
  · rw [if_pos h1]
    exact .inl ⟨h1, gos_get x i h1 _⟩
  · rw [if_neg h1]
    by_cases h2 : i = x.length
    · refine .inr (.inl ⟨h2, ?_⟩)
      rw [h2, Nat.sub_self]; rfl
    · obtain ⟨j, rfl⟩ : ∃ j, i = x.length + 1 + j := ⟨i - x.length - 1, by omega⟩
      rw [show x.length + 1 + j - x.length = j + 1 by omega, List.getD_cons_succ, getD_app, gos_length]
      by_cases h3 : j < y.length
      · rw [if_pos h3]
        exact .inr (.inr (.inl ⟨j, h3, rfl, gos_get y j h3 _⟩))
      · rw [if_neg h3]
        by_cases h4 : j = y.length
        · refine .inr (.inr (.inr (.inl ⟨by omega, ?_⟩)))
          rw [h4, Nat.sub_self]; rfl
        · obtain ⟨u, rfl⟩ : ∃ u, j = y.length + 1 + u := ⟨j - y.length - 1, by omega⟩
          rw [show y.length + 1 + u - y.length = u + 1 by omega, List.getD_cons_succ]
          exact .inr (.inr (.inr (.inr ⟨u, by omega, by omega, gos_get z u (by omega) _⟩)))
theorem nearB_of {W H : Int} {s : ByteArray} {c : Int} {y : Nat} (h : y ∈ nears W H s c) : nearB W H s c (y : Int) = true := by
  unfold nearB il
  rw [List.contains_iff_mem]
  simp only [List.mem_map, List.mem_range]
  obtain ⟨j, hj, rfl⟩ := List.getElem_of_mem h
  exact ⟨j, hj, by rw [List.getD, List.getElem?_eq_getElem hj]; rfl⟩
theorem nearB_iff {W H : Int} {s : ByteArray} {c x : Int} : nearB W H s c x = true ↔ ∃ y, y ∈ nears W H s c ∧ x = (y : Int) := by
  constructor
  · intro h
    unfold nearB il at h
    rw [List.contains_iff_mem] at h
    simp only [List.mem_map, List.mem_range] at h
    obtain ⟨j, hj, e⟩ := h
    exact ⟨_, by rw [List.getD, List.getElem?_eq_getElem hj] at e; exact List.getElem_mem hj, by rw [← e, List.getD, List.getElem?_eq_getElem hj]; rfl⟩
  · rintro ⟨y, h, rfl⟩
    exact nearB_of h
/-- A way that is told: its cells are near to one another, none is blocked, all but the last are lanes. -/
theorem way_parts {W H : Int} {s : ByteArray} {c t : Int} {B : Nat → Bool} {P : List Nat} (h : WayIs W H s c t B P 0) :
    ∃ (cn tn : Nat), c = (cn : Int) ∧ t = (tn : Int) ∧ Gr (nx5 W.toNat H.toNat (at_ s) cn B) tn cn P ∧
      (∀ i, i < P.length → (i + 1 = P.length ∧ P.getD i 0 = tn ∨ i + 1 < P.length ∧ laneB s ((P.getD i 0 : Nat) : Int) = true) ∧ B (P.getD i 0) = false ∧ nearB W H s (((cn :: P).getD i 0 : Nat) : Int) ((P.getD i 0 : Nat) : Int) = true) ∧
      (∀ x y : Nat, y ∈ nx5 W.toNat H.toNat (at_ s) cn B x → nearB W H s (x : Int) (y : Int) = true) := by
  have hlt := way_lt h
  rcases h with ⟨hc, ht, _, hg, hl⟩ | ⟨_, _, e, _⟩ | ⟨_, e, _⟩
  · obtain ⟨a, b, k, rfl, rfl, rfl, hk, _, hS, _⟩ := onFloor_some hc
    obtain ⟨tn, rfl, htn, _⟩ := bAt_in ht.2
    have hnear : ∀ x y : Nat, y ∈ nr a b (at_ s) x → nearB (a : Int) (b : Int) s (x : Int) (y : Int) = true := fun x y hy => nearB_of (by rw [nears_nr]; exact hy)
    refine ⟨k, tn, rfl, rfl, hg, fun i hi => ?_, fun x y hy => hnear x y (mem_nx5.1 hy).2.1⟩
    obtain ⟨_, h2, h3⟩ := gr_cells hg i hi
    refine ⟨?_, h2, hnear _ _ h3⟩
    rcases way_lanes hg hl i hi with q | ⟨q1, q2⟩
    · exact .inl q
    · refine .inr ⟨q1, ?_⟩
      unfold laneB
      rw [bAt_in5 s _ (hlt i hi)]; exact q2
  · omega
  · omega
theorem mem_cells {P : List Nat} {Q : Nat → Prop} (h : ∀ i, i < P.length → Q (P.getD i 0)) : ∀ y, y ∈ P → Q y := by
  intro y hy
  obtain ⟨i, hi, rfl⟩ := List.getElem_of_mem hy
  have := h i hi
  rw [List.getD, List.getElem?_eq_getElem hi] at this
  exact this
/-- What was made is right, from the dock on. -/
theorem trip_right {W H : Int} {s : ByteArray} {r pod a b : Int} {B : Nat → Bool} {d : Nat} {x y z : List Nat} (hm : MayTrip W H s r pod a b) (hd : IsFirst s (48 + r.toNat) d) (h1 : WayIs W H s (d : Int) a B x 0) (h2 : WayIs W H s a b B y 0) (h3 : WayIs W H s b (d : Int) B z 0) (hlen : (tripL x y z a b pod).length ≤ 770) :
    RightIs W H s r (d : Int) (tripL x y z a b pod) := by
  obtain ⟨dn, an, e1, rfl, g1, c1, n1⟩ := way_parts h1
  obtain rfl : d = dn := by omega
  obtain ⟨an', bn, e2, rfl, g2, c2, n2⟩ := way_parts h2
  obtain rfl : an = an' := by omega
  obtain ⟨bn', dn', e3, e4, g3, c3, n3⟩ := way_parts h3
  obtain rfl : bn = bn' := by omega
  obtain rfl : d = dn' := by omega
  refine ⟨d, hm.1, hd, .inl rfl, by omega, trip_run g1 g2 g3 hm.2.1 hm.2.2.1 hm.2.2.2 n1 n2 n3 ?_ ?_ ?_⟩
  · refine mem_cells (fun i hi => ?_)
    rcases (c1 i hi).1 with ⟨_, q⟩ | ⟨_, q⟩
    · rw [q]; exact .inr hm.2.2.1
    · exact .inr q
  · refine mem_cells (fun i hi => ?_)
    rcases (c2 i hi).1 with ⟨_, q⟩ | ⟨_, q⟩
    · rw [q]; exact .inr hm.2.2.2
    · exact .inr q
  · refine mem_cells (fun i hi => ?_)
    rcases (c3 i hi).1 with ⟨_, q⟩ | ⟨_, q⟩
    · rw [q]; exact .inl rfl
    · exact .inr q
end Tr
end Go.Proofs.YtokjnmgbgflgnaaGreatDoor
