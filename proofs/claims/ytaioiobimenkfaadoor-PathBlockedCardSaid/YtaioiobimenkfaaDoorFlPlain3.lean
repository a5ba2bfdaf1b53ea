/-
  How often each number stands among docks, in plain words.
-/
import Derived.Test.YtaioiobimenkfaaDoorFlPlain2
set_option linter.unusedVariables false
set_option maxRecDepth 100000
namespace Go.Proofs.YtaioiobimenkfaaDoor.Fl

def cn (z : Nat → Nat) (l : List Nat) (r : Nat) : Nat := (l.filter fun i => z i == 48 + r).length
theorem cn_nil (z : Nat → Nat) (r : Nat) : cn z [] r = 0 := rfl
theorem cn_snoc (z : Nat → Nat) (l : List Nat) (x r : Nat) : cn z (l ++ [x]) r = if z x = 48 + r then cn z l r + 1 else cn z l r := by
  unfold cn
  rw [List.filter_append, List.length_append]
  by_cases h : z x = 48 + r <;> simp [h]
theorem cn_cons (z : Nat → Nat) (l : List Nat) (x r : Nat) : cn z (x :: l) r = (if z x = 48 + r then 1 else 0) + cn z l r := by
  unfold cn
  by_cases h : z x = 48 + r
  · simp [h]; omega
  · simp [h]
theorem isD_of {c : Nat} (h : isD c = true) : ∃ r, r < 8 ∧ c = 48 + r := by
  unfold isD at h
  simp only [Bool.and_eq_true, decide_eq_true_eq] at h
  exact ⟨c - 48, by omega, by omega⟩
theorem isD_mk {r : Nat} (h : r < 8) : isD (48 + r) = true := by unfold isD; simp; omega
theorem cn_sum (z : Nat → Nat) (l : List Nat) (h : ∀ x, x ∈ l → isD (z x) = true) : cn z l 0 + cn z l 1 + cn z l 2 + cn z l 3 + cn z l 4 + cn z l 5 + cn z l 6 + cn z l 7 = l.length := by
  induction l with
  | nil => rfl
  | cons x l ih =>
    have := ih (fun y hy => h y (List.mem_cons_of_mem _ hy))
    obtain ⟨r, hr, e⟩ := isD_of (h x (by simp))
    simp only [cn_cons, List.length_cons, e]
    have hr8 : r = 0 ∨ r = 1 ∨ r = 2 ∨ r = 3 ∨ r = 4 ∨ r = 5 ∨ r = 6 ∨ r = 7 := by omega
    rcases hr8 with rfl | rfl | rfl | rfl | rfl | rfl | rfl | rfl <;> simp <;> omega
theorem pick_pick (p q : Nat → Bool) (z : Nat → Nat) (n : Nat) (h : ∀ c, q c = true → p c = true) : (pick p z n).filter (fun i => q (z i)) = pick q z n := by
  unfold pick
  rw [List.filter_filter]
  apply List.filter_congr
  intro i _
  cases hq : q (z i)
  · simp
  · simp [h _ hq]
theorem cn_docks (W H : Nat) (z : Nat → Nat) (r : Nat) (hr : r < 8) : cn z (docks W H z) r = cnt W H z r := by
  unfold cn docks cnt
  rw [pick_pick isD (fun c => c == 48 + r) z (W * H) (fun c hc => by rw [beq_iff_eq] at hc; rw [hc]; exact isD_mk hr)]
theorem docks_isD {W H : Nat} {z : Nat → Nat} {x : Nat} (h : x ∈ docks W H z) : x < W * H ∧ isD (z x) = true := mem_pick.1 h

/-- All was looked at: the docks are right where there is one. -/
theorem docks_all {W H : Nat} {z : Nat → Nat} (h : ∀ r, r < min (docks W H z).length 8 → cn z (docks W H z) r = 1) (hn : ∀ d, d ∈ docks W H z → ByLane W H z d) : DocksOk W H z ↔ 1 ≤ (docks W H z).length := by
  constructor
  · exact fun k => k.one
  · intro h1
    have h8 : (docks W H z).length ≤ 8 := by
      rcases Nat.lt_or_ge 8 (docks W H z).length with k | k
      · have hs := cn_sum z (docks W H z) (fun x hx => (docks_isD hx).2)
        have e : ∀ r, r < 8 → cn z (docks W H z) r = 1 := fun r hr => h r (by omega)
        rw [e 0 (by omega), e 1 (by omega), e 2 (by omega), e 3 (by omega), e 4 (by omega), e 5 (by omega), e 6 (by omega), e 7 (by omega)] at hs
        omega
      · exact k
    exact ⟨h1, h8, fun r hr => by rw [← cn_docks W H z r (by omega)]; exact h r (by omega), hn⟩
theorem docks_not {W H : Nat} {z : Nat → Nat} {r : Nat} (hr : r < min (docks W H z).length 8) (h : cn z (docks W H z) r ≠ 1) : ¬ DocksOk W H z := fun k => h (by rw [cn_docks W H z r (by omega)]; exact k.once r (by omega))

end Go.Proofs.YtaioiobimenkfaaDoor.Fl
