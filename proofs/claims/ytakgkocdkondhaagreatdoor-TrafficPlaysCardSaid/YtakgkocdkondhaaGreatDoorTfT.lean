/-
  Layer 11: which zones a robot may hold, told as a list; where it is and goes to.
-/
import Derived.Test.YtakgkocdkondhaaGreatDoorTrafficWaitsW
set_option linter.unusedVariables false
set_option maxRecDepth 100000
namespace Go.Proofs.YtakgkocdkondhaaGreatDoor
namespace Tf
open Go.RowKit Fl Tr Pt
open Lk (Ow T0 zns at9)

/-- The zone that a robot goes to. -/
def goP (s : ByteArray) (m : Mv) : List Int := if m.2.2 = true then (match m.2.1 with | [] => [] | a :: _ => az s a) else []
section
variable {W H : Int} {s : ByteArray} {R : List Mv} {T : List Ow}
theorem nowF_in {k : Nat} (hk : k < R.length) : nowF R (k : Int) = (match getM R k with | (_, a :: _, true) => (a, true) | _ => ((0, 0, 0), false)) := by
  unfold nowF
  rw [if_pos ⟨by omega, by omega⟩, Int.toNat_natCast]
  generalize getM R k = m
  obtain ⟨c, l, b⟩ := m
  cases l <;> cases b <;> rfl
theorem cellF_in {k : Nat} (hk : k < R.length) : cellF R (k : Int) = ((getM R k).1, true) := by
  unfold cellF
  rw [if_pos ⟨by omega, by omega⟩, Int.toNat_natCast]
/-- A robot, told apart by what it is let do. -/
theorem mv_cases (h : Inv W H s R T) {k : Nat} (hk : k < R.length) : ((getM R k).2.2 = false ∧ nowF R (k : Int) = ((0, 0, 0), false) ∧ goP s (getM R k) = []) ∨ (∃ a l, (getM R k).2.1 = a :: l ∧ (getM R k).2.2 = true ∧ nowF R (k : Int) = (a, true) ∧ goP s (getM R k) = az s a) := by
  have hb := h.busy k hk
  rw [nowF_in hk]
  generalize getM R k = m at *
  obtain ⟨c, l, b⟩ := m
  cases b with
  | false => exact .inl ⟨rfl, by cases l <;> rfl, rfl⟩
  | true =>
    cases l with
    | nil => exact absurd rfl (hb rfl)
    | cons a l => exact .inr ⟨a, l, rfl, rfl, rfl, rfl⟩
end
end Tf
end Go.Proofs.YtakgkocdkondhaaGreatDoor
