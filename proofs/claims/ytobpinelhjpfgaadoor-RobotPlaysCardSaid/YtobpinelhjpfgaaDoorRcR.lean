/-
  Layer 17: the document's Right, Lay and LayAct.
-/
import Derived.Test.YtobpinelhjpfgaaDoorRcTwo
import Derived.Test.YtobpinelhjpfgaaDoorBtSix
set_option linter.unusedVariables false
set_option maxRecDepth 100000
namespace Go.Proofs.YtobpinelhjpfgaaDoor
namespace Rc
open Go.RowKit Bp Ck
theorem in_any (n m : Int) (b : Bool) (hb : decide (0 ≤ n ∧ n ≤ m) = b) (w : World) :
    Calls Tryd.prog 66 #[.int .i64 n, .int .i64 m] w fun e w' => e = .returned (.bool b) ∧ w = w' := by
  by_cases hn : 0 ≤ n
  · have e1 : decide (0 ≤ n) = true := decide_eq_true hn
    rw [Bool.decide_and, e1, Bool.true_and] at hb
    go_enter Tryd.func66, Tryd.ntmps66
    go_wp2
    go_ret
    exact ⟨by rw [← hb]; rfl, rfl⟩
  · have e1 : decide (0 ≤ n) = false := decide_eq_false hn
    rw [Bool.decide_and, e1, Bool.false_and] at hb
    subst hb
    go_enter Tryd.func66, Tryd.ntmps66
    go_wp2
    go_ret
    exact ⟨rfl, rfl⟩
theorem rok1 (i r p c q : Int) : Rok 1 (five i r p c q) ↔ i = 0 ∧ r = 0 ∧ (0 ≤ p ∧ p ≤ 63) ∧ (0 ≤ c ∧ c ≤ 255) ∧ (0 ≤ q ∧ q ≤ 5) := by
  constructor
  · intro h
    have h0 := h.2 0 (by decide); have h1 := h.2 1 (by decide); have h2 := h.2 2 (by decide); have h3 := h.2 3 (by decide); have h4 := h.2 4 (by decide)
    simp [five, fmx, fl] at h0 h1 h2 h3 h4
    omega
  · intro h
    refine ⟨by simp [fl], fun f hf => ?_⟩
    have hcs : f = 0 ∨ f = 1 ∨ f = 2 ∨ f = 3 ∨ f = 4 := by omega
    rcases hcs with rfl | rfl | rfl | rfl | rfl <;> simp [five, fmx, fl] <;> omega
theorem rok2 (i r p c q : Int) : Rok 2 (five i r p c q) ↔ (0 ≤ i ∧ i ≤ 1073741824) ∧ (r = 0) ∧ p = 0 ∧ c = 0 ∧ q = 0 := by
  constructor
  · intro h
    have h0 := h.2 0 (by decide); have h1 := h.2 1 (by decide); have h2 := h.2 2 (by decide); have h3 := h.2 3 (by decide); have h4 := h.2 4 (by decide)
    simp [five, fmx, fl] at h0 h1 h2 h3 h4
    omega
  · intro h
    refine ⟨by simp [fl], fun f hf => ?_⟩
    have hcs : f = 0 ∨ f = 1 ∨ f = 2 ∨ f = 3 ∨ f = 4 := by omega
    rcases hcs with rfl | rfl | rfl | rfl | rfl <;> simp [five, fmx, fl] <;> omega
theorem rok3 (i r p c q : Int) : Rok 3 (five i r p c q) ↔ (0 ≤ i ∧ i ≤ 1073741824) ∧ (0 ≤ r ∧ r ≤ 7) ∧ p = 0 ∧ c = 0 ∧ q = 0 := by
  constructor
  · intro h
    have h0 := h.2 0 (by decide); have h1 := h.2 1 (by decide); have h2 := h.2 2 (by decide); have h3 := h.2 3 (by decide); have h4 := h.2 4 (by decide)
    simp [five, fmx, fl] at h0 h1 h2 h3 h4
    omega
  · intro h
    refine ⟨by simp [fl], fun f hf => ?_⟩
    have hcs : f = 0 ∨ f = 1 ∨ f = 2 ∨ f = 3 ∨ f = 4 := by omega
    rcases hcs with rfl | rfl | rfl | rfl | rfl <;> simp [five, fmx, fl] <;> omega
theorem rok4 (i r p c q : Int) : Rok 4 (five i r p c q) ↔ (i = 0) ∧ (0 ≤ r ∧ r ≤ 7) ∧ p = 0 ∧ c = 0 ∧ q = 0 := by
  constructor
  · intro h
    have h0 := h.2 0 (by decide); have h1 := h.2 1 (by decide); have h2 := h.2 2 (by decide); have h3 := h.2 3 (by decide); have h4 := h.2 4 (by decide)
    simp [five, fmx, fl] at h0 h1 h2 h3 h4
    omega
  · intro h
    refine ⟨by simp [fl], fun f hf => ?_⟩
    have hcs : f = 0 ∨ f = 1 ∨ f = 2 ∨ f = 3 ∨ f = 4 := by omega
    rcases hcs with rfl | rfl | rfl | rfl | rfl <;> simp [five, fmx, fl] <;> omega
theorem rok5 (i r p c q : Int) : Rok 5 (five i r p c q) ↔ (i = 0) ∧ (0 ≤ r ∧ r ≤ 7) ∧ p = 0 ∧ c = 0 ∧ q = 0 := by
  constructor
  · intro h
    have h0 := h.2 0 (by decide); have h1 := h.2 1 (by decide); have h2 := h.2 2 (by decide); have h3 := h.2 3 (by decide); have h4 := h.2 4 (by decide)
    simp [five, fmx, fl] at h0 h1 h2 h3 h4
    omega
  · intro h
    refine ⟨by simp [fl], fun f hf => ?_⟩
    have hcs : f = 0 ∨ f = 1 ∨ f = 2 ∨ f = 3 ∨ f = 4 := by omega
    rcases hcs with rfl | rfl | rfl | rfl | rfl <;> simp [five, fmx, fl] <;> omega
end Rc
end Go.Proofs.YtobpinelhjpfgaaDoor
