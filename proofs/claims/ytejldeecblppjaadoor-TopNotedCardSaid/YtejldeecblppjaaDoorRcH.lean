/-
  Layer 17: the document's examples; what was laid as bytes.
-/
import Derived.Test.YtejldeecblppjaaDoorRcG
set_option linter.unusedVariables false
set_option maxRecDepth 100000
namespace Go.Proofs.YtejldeecblppjaaDoor
namespace Rc
open Go.RowKit Bp Ck
theorem LayTold.own {w w' : World} {zs : List Nat} {e : Ending} (h : LayTold w zs e w') (hz : ∀ z ∈ zs, z ≤ 255) : ∃ A cp, e = .returned (.tuple #[.slice A zs.length cp, .int .i64 0]) ∧ By w'.heap.size w' A zs.length cp zs ∧ Below w.heap.size w w' := by
  obtain ⟨A, cp, rfl, ho, hb⟩ := h
  exact ⟨A, cp, rfl, By.own ho hz, hb⟩
theorem by_later {B : Nat} {w w' : World} {A : Option Addr} {n cap : Nat} {zs : List Nat} (h : By B w A n cap zs) (hB : B ≤ w.heap.size) (hb : Below w.heap.size w w') : By B w' A n cap zs := h.below (hb.mono hB)
theorem ex_rec : pack (kb 3 5 (fl 5) (natN (five 0 5 0 0 0))) = [180] := by decide
theorem ex_act : pack (kb 2 1 [3, 2] (natN (five 0 0 0 7 0))) = [65, 192] := by decide
theorem shown_any (w : World) (hS : Shp w) : Calls Tryd.prog 12 #[] w fun e w' => e = .returned (.bool true) ∧ Below w.heap.size w w' := by
  have h1 := lay_ok 5 0 5 0 0 0 w (by decide) hS
  rw [ex_rec] at h1
  have H1 := Lib.hid h1
  have HS := Lib.hid hS
  clear h1 hS
  go_enter Tryd.func12, Tryd.ntmps12
  go_wp2_with fail
  refine H1.out.mono ?_
  intro e w1 ht
  obtain ⟨A1, c1, rfl, hy1, hb1⟩ := ht.own (by simp)
  have h2 := layAct_ok 1 7 0 w1 (by decide) (HS.out.later hb1)
  rw [ex_act] at h2
  have H2 := Lib.hid h2
  have HY1 := Lib.hid hy1
  have HB1 := Lib.hid hb1
  clear ht hy1 hb1 h2 H1
  go_wp2_with fail
  refine H2.out.mono ?_
  intro e w2 ht
  obtain ⟨A2, c2, rfl, hy2, hb2⟩ := ht.own (by simp)
  have q1 := (by_later HY1.out (Nat.le_refl _) hb2).conv
  have q2 := hy2.conv
  have HB2 := Lib.hid (HB1.out.trans (hb2.mono HB1.out.size))
  have s1 : strOf [180] = { data := #[180] } := by rfl
  have s2 : strOf [65, 192] = { data := #[65, 192] } := by rfl
  rw [s1] at q1
  rw [s2] at q2
  simp only [List.length_cons, List.length_nil] at q1 q2 ⊢
  clear ht hy2 hb2 H2 s1 s2
  go_wp2
  go_ret
  exact ⟨rfl, HB2.out⟩
end Rc
end Go.Proofs.YtejldeecblppjaaDoor
