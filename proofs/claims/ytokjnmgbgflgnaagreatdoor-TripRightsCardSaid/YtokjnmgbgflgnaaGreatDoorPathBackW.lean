/-
  PathBack: the walk.
-/
import Derived.Test.YtokjnmgbgflgnaaGreatDoorPtShown
import Derived.Deep.RegionHeld3
import Derived.BigQuiet
set_option linter.unusedVariables false
set_option maxRecDepth 100000
namespace Go.Proofs.YtokjnmgbgflgnaaGreatDoor
open Go.RowKit Fl Pt

/-- How far cells are, on a floor whose cell a is a lane. -/
theorem dist_lane {W H : Nat} {s : ByteArray} {a : Nat} {w : World} (hO : OnFloor (W : Int) (H : Int) s (a : Int)) (f : Nat → Int) :
    ∀ e w', DistTold (W : Int) (H : Int) s (a : Int) (mk f 0) w e w' → ∃ A cap, ∃ F : List Int, e = .returned (.slice A s.size cap) ∧ F.length = s.size ∧ Il w'.heap.size w' A s.size cap (fun j => F.getD j 0) ∧ Below w.heap.size w w' ∧ ∀ x, x < s.size → IsD (nx5 W H (at_ s) a fun _ => false) a x (F.getD x 0) := by
  rintro e w' ⟨A, n, cap, F, rfl, hn, hil, hb, hd, _⟩
  obtain ⟨h1, h2⟩ := hd hO
  obtain rfl : n = s.size := hn.trans h1
  exact ⟨A, cap, F, rfl, h1, hil, hb, h2⟩
theorem lane_floor {W H : Int} {s : ByteArray} {c : Int} (h : OnLane W H s c) : ∃ a b k : Nat, W = a ∧ H = b ∧ c = k ∧ k < s.size ∧ isL (at_ s k) = true ∧ Sides a b s ∧ RightN a b (at_ s) := by
  obtain ⟨a, b, rfl, rfl, hS, hN⟩ := rightNat h.1
  have h2 := h.2
  obtain ⟨k, rfl, hk, hz⟩ := bAt_in (s := s) (c := c) (fun e => by rw [e] at h2; revert h2; decide)
  rw [hz] at h2
  exact ⟨a, b, k, rfl, rfl, rfl, hk, h2, hS, hN⟩
theorem lane_cell {W H : Int} {s : ByteArray} {c : Int} (h : OnLane W H s c) : ∃ k : Nat, c = k ∧ k < s.size ∧ isL (at_ s k) = true := by
  obtain ⟨_, _, k, _, _, e, hk, hl, _⟩ := lane_floor h
  exact ⟨k, e, hk, hl⟩
theorem lane_on {W H : Int} {s : ByteArray} {c : Int} (h : OnLane W H s c) : OnFloor W H s c := ⟨h.1, fun e => by have h2 := h.2; rw [e] at h2; revert h2; decide⟩
theorem isD_lt {nx : Nat → List Nat} {N a c : Nat} {x : Int} (ha : a < N) (hN : ∀ x y, x < N → y ∈ nx x → y < N) (h : IsD nx a c x) : -1 ≤ x ∧ x < N := by
  rcases h with ⟨rfl, _⟩ | ⟨n, rfl, hl⟩
  · exact ⟨Int.le_refl _, by omega⟩
  · have := lv_lt ha hN hl
    omega
def at3 (a b c : Int) : Nat → Int
  | 0 => a
  | 1 => b
  | _ => c
theorem il_three (w : World) (a b c : Int) : Il (w.alloc (.cells #[.int .i64 a, .int .i64 b, .int .i64 c] 3)).heap.size (w.alloc (.cells #[.int .i64 a, .int .i64 b, .int .i64 c] 3)) (some ⟨w.heap.size, 0, none⟩) 3 3 (at3 a b c) := by
  have h := il_lit (w := w) (l := [a, b, c]) (cs := #[.int .i64 a, .int .i64 b, .int .i64 c]) (by simp) rfl
  refine ⟨h.le, h.max, h.nil, fun h0 => ?_⟩
  obtain ⟨g, off, e, hg, hc⟩ := h.cell h0
  refine ⟨g, off, e, hg, fun j hj => ?_⟩
  have := hc j hj
  have : j = 0 ∨ j = 1 ∨ j = 2 := by omega
  rcases this with rfl | rfl | rfl <;> exact hc _ hj

def LaneD (W H : Nat) (s : ByteArray) (a : Nat) (w : World) (e : Ending) (w' : World) : Prop :=
  ∃ A cap, ∃ F : List Int, e = .returned (.slice A s.size cap) ∧ Il w'.heap.size w' A s.size cap (fun j => F.getD j 0) ∧ Below w.heap.size w w' ∧ Hid (∀ x, x < s.size → IsD (nx5 W H (at_ s) a fun _ => false) a x (F.getD x 0))

end Go.Proofs.YtokjnmgbgflgnaaGreatDoor
