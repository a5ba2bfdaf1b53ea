/-
  WindowSums, WindowEither: plain facts: what lies free.
-/
import Derived.Test.YtcdclghmebgpnaaGreatDoorWnP
set_option linter.unusedVariables false
set_option maxRecDepth 100000
namespace Go.Proofs.YtcdclghmebgpnaaGreatDoor.Wn

/-- How long windows are together. -/
def sumW : List (Int × Int) → Int
  | [] => 0
  | p :: r => (p.2 - p.1) + sumW r
theorem sumW_app : ∀ l m, sumW (l ++ m) = sumW l + sumW m
  | [], m => by simp [sumW]
  | p :: l, m => by
    show (p.2 - p.1) + sumW (l ++ m) = (p.2 - p.1) + sumW l + sumW m
    rw [sumW_app l m]; omega
theorem sum_gaps : ∀ (L : List (Int × Int)) (f : Int), Ordw f L → f ≤ 1048576 → sumW (gaps f (L ++ [(1048576, 0)])) + sumW L = 1048576 - f
  | [], f, _, h => by
    show sumW ((if f < (1048576 : Int) then [(f, (1048576 : Int))] else []) ++ []) + 0 = _
    split <;> simp [sumW] <;> omega
  | p :: r, f, ⟨h1, h2, h3, h4⟩, h => by
    have ih := sum_gaps r p.2 h4 h3
    show sumW ((if f < p.1 then [(f, p.1)] else []) ++ gaps p.2 (r ++ [(1048576, 0)])) + ((p.2 - p.1) + sumW r) = _
    rw [sumW_app]
    split <;> simp [sumW] <;> omega
theorem sum_frees {L : List (Int × Int)} (h : Ordw 0 L) : sumW (frees L) + sumW L = 1048576 := by
  have := sum_gaps L 0 h (by omega)
  unfold frees
  omega
/-- What lies free stands in order. -/
theorem gaps_ord : ∀ (L : List (Int × Int)) (f : Int), 0 ≤ f → Ordw f L → f ≤ 1048576 → Ordw f (gaps f (L ++ [(1048576, 0)]))
  | [], f, h0, _, h => by
    show Ordw f ((if f < (1048576 : Int) then [(f, (1048576 : Int))] else []) ++ [])
    split
    · exact ⟨Int.le_refl _, by assumption, Int.le_refl _, trivial⟩
    · exact trivial
  | p :: r, f, h0, ⟨h1, h2, h3, h4⟩, h => by
    have ih := gaps_ord r p.2 (by omega) h4 h3
    show Ordw f ((if f < p.1 then [(f, p.1)] else []) ++ gaps p.2 (r ++ [(1048576, 0)]))
    split
    · rename_i hlt
      exact ⟨Int.le_refl _, hlt, by show p.1 ≤ 1048576; omega, ih.lower (by show p.1 ≤ p.2; omega)⟩
    · exact ih.lower (by omega)
/-- Does a moment lie in one of some windows? -/
def inW (m : Int) (L : List (Int × Int)) : Bool := L.any fun p => decide (p.1 ≤ m) && decide (m < p.2)
theorem inW_low {f m : Int} : ∀ {L : List (Int × Int)}, Ordw f L → m < f → inW m L = false
  | [], _, _ => rfl
  | p :: r, ⟨h1, h2, h3, h4⟩, h => by
    have ih := inW_low h4 (by omega : m < p.2)
    unfold inW at ih ⊢
    rw [List.any_cons, ih, Bool.or_false]
    have : ¬ p.1 ≤ m := by omega
    simp [this]
/-- A moment lies in just one of both. -/
theorem in_one : ∀ (L : List (Int × Int)) (f m : Int), 0 ≤ f → Ordw f L → f ≤ m → m < 1048576 → inW m (gaps f (L ++ [(1048576, 0)])) = !inW m L
  | [], f, m, h0, _, h1, h2 => by
    show inW m ((if f < (1048576 : Int) then [(f, (1048576 : Int))] else []) ++ []) = !false
    rw [if_pos (by omega)]
    simp [inW, h1, h2]
  | p :: r, f, m, h0, ⟨k1, k2, k3, k4⟩, h1, h2 => by
    show inW m ((if f < p.1 then [(f, p.1)] else []) ++ gaps p.2 (r ++ [(1048576, 0)])) = !inW m (p :: r)
    by_cases hm : m < p.2
    · have e1 := inW_low (gaps_ord r p.2 (by omega) k4 k3) hm
      have e2 := inW_low k4 hm
      unfold inW at e1 e2 ⊢
      rw [List.any_append, e1, List.any_cons, e2, Bool.or_false, Bool.or_false]
      by_cases hp : p.1 ≤ m
      · split <;> simp [hp, hm] <;> omega
      · rw [if_pos (by omega)]
        simp [hp, h1]
        omega
    · have ih := in_one r p.2 m (by omega) k4 (by omega) h2
      unfold inW at ih ⊢
      rw [List.any_append, ih, List.any_cons]
      have hn : ¬ m < p.2 := hm
      have hn1 : ¬ m < p.1 := by omega
      split <;> simp [hn, hn1]
theorem isF_in {m : Int} : ∀ {L : List (Int × Int)} {f : Int}, Ordw f L → isF L m = !inW m L
  | [], _, _ => rfl
  | p :: r, f, ⟨h1, h2, h3, h4⟩ => by
    have ih := isF_in (m := m) h4
    by_cases hp : p.2 ≤ m
    · have e : plc (p :: r) m = plc r m + 1 := by simp [plc, hp]
      have e2 : isF (p :: r) m = isF r m := by
        unfold isF
        rw [e]
        simp
      have e3 : inW m (p :: r) = inW m r := by
        unfold inW
        rw [List.any_cons]
        have : ¬ m < p.2 := by omega
        simp [this]
      rw [e2, e3, ih]
    · have e : plc (p :: r) m = 0 := by simp [plc, hp]
      have low := inW_low h4 (by omega : m < p.2)
      unfold isF
      rw [e]
      unfold inW at low ⊢
      rw [List.any_cons, low]
      have : m < p.2 := by omega
      by_cases hq : p.1 ≤ m
      · have : ¬ m < p.1 := by omega
        simp [*]
      · have : m < p.1 := by omega
        simp [*]
theorem isT_in {L : List (Int × Int)} {m : Int} (h : Ordw 0 L) : isT L m = (decide (0 ≤ m) && decide (m < 1048576) && !inW m L) := by unfold isT; rw [isF_in h]
end Go.Proofs.YtcdclghmebgpnaaGreatDoor.Wn
