/-
  The first lane; when a floor is right, in the document's order.
-/
import Derived.Test.YtaioiobimenkfaaDoorFlPlain4
set_option linter.unusedVariables false
set_option maxRecDepth 100000
namespace Go.Proofs.YtaioiobimenkfaaDoor.Fl

/-- The first lane of the first k cells, or -1. -/
def fstL (z : Nat → Nat) (k : Nat) : Int := match pick isL z k with | [] => -1 | x :: _ => (x : Int)
theorem fstL_zero (z : Nat → Nat) : fstL z 0 = -1 := rfl
theorem fstL_no {z : Nat → Nat} {k : Nat} (h : isL (z k) = false) : fstL z (k + 1) = fstL z k := by
  unfold fstL
  rw [pick_succ, if_neg (by rw [h]; decide), List.append_nil]
theorem fstL_new {z : Nat → Nat} {k : Nat} (h : isL (z k) = true) (hn : fstL z k < 0) : fstL z (k + 1) = k := by
  unfold fstL at hn ⊢
  rw [pick_succ, if_pos h]
  cases hp : pick isL z k with
  | nil => rfl
  | cons x r => rw [hp] at hn; simp at hn; omega
theorem fstL_old {z : Nat → Nat} {k : Nat} (h : ¬ fstL z k < 0) : fstL z (k + 1) = fstL z k := by
  unfold fstL at h ⊢
  rw [pick_succ]
  cases hp : pick isL z k with
  | nil => rw [hp] at h; simp at h
  | cons x r => simp
theorem fstL_bd (z : Nat → Nat) (k : Nat) : -1 ≤ fstL z k ∧ fstL z k ≤ k := by
  unfold fstL
  cases hp : pick isL z k with
  | nil => simp
  | cons x r =>
    have := (mem_pick.1 (by rw [hp]; simp : x ∈ pick isL z k)).1
    simp
    omega
theorem fstL_some {z : Nat → Nat} {k : Nat} (h : ¬ fstL z k < 0) : ∃ a r, pick isL z k = a :: r ∧ fstL z k = (a : Int) := by
  unfold fstL at h ⊢
  cases hp : pick isL z k with
  | nil => rw [hp] at h; simp at h
  | cons x r => exact ⟨x, r, rfl, rfl⟩
theorem fstL_none {W H : Nat} {z : Nat → Nat} (h : fstL z (W * H) < 0) : ¬ Joined W H z := by
  rintro ⟨a, r, hp, _⟩
  unfold fstL at h
  rw [hp] at h
  simp at h
  omega
theorem not_both {c : Nat} (h : isD c = true) : isL c = false := by
  unfold isD at h
  simp only [Bool.and_eq_true, decide_eq_true_eq] at h
  unfold isL
  simp
  omega
theorem lane_wall {c : Nat} (h : isL c = true) : c ≠ 35 := by rintro rfl; cases h
theorem dock_wall {c : Nat} (h : isD c = true) : c ≠ 35 := by rintro rfl; cases h
/-- Is a lane among these? -/
def anyL (z : Nat → Nat) (l : List Nat) : Bool := l.any fun b => isL (z b)
theorem anyL_snoc (z : Nat → Nat) (l : List Nat) (b : Nat) : anyL z (l ++ [b]) = (anyL z l || isL (z b)) := by simp [anyL, List.any_append]
theorem anyL_iff (W H : Nat) (z : Nat → Nat) (c : Nat) : anyL z (side W H c) = true ↔ ByLane W H z c := by
  unfold anyL ByLane
  rw [List.any_eq_true]

end Go.Proofs.YtaioiobimenkfaaDoor.Fl
