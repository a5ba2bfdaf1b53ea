/-
  Layer 5: a map of truths whose keys are any numbers: made, put, asked.
-/
import Derived.Test.YtellaeihcignaaaGreatDoorPtTwo
import Derived.Test.YtellaeihcignaaaGreatDoorPtRa
import Derived.Test.YtellaeihcignaaaGreatDoorFlIns
import Derived.Deep.RegionHeld3
import Derived.BigQuiet
set_option linter.unusedVariables false
set_option maxRecDepth 100000
namespace Go.Proofs.YtellaeihcignaaaGreatDoor
open Go.RowKit Fl Pt Go.Maps

theorem IW_nat {n : Nat} (h : n ≤ 1000000) : IW (n : Int) := by unfold IW; omega
def kI (x : Int) : Lit := .int .i64 x
theorem kI_inj {x y : Int} (h : kI x = kI y) : x = y := by simpa [kI] using h
theorem kI_key (x : Int) : WideAt.IsKeyLit (kI x) := trivial
/-- Block b is a map of truths; m tells which numbers are in it. -/
def SetI (w : World) (b n : Nat) (m : Int → Bool) : Prop :=
  ∃ D : DataW Unit, w.ownsMap Tryz.prog 3 (plainElem Tryz.prog 4) b n D ∧ ∀ x : Int, has D (kI x) = m x ∧ (m x = true → ∀ z, D.atKey (kI x) z = .lit (.bool true))
theorem SetI.made (w : World) : SetI (w.alloc (.map #[] 0)) w.heap.size 0 (fun _ => false) :=
  ⟨.map [], World.ownsMap_made w _ _ _, fun x => ⟨by simp [has], fun h => by cases h⟩⟩
theorem SetI.lt {w : World} {b n : Nat} {m : Int → Bool} (h : SetI w b n m) : b < w.heap.size := by
  obtain ⟨D, h1, h2⟩ := h
  exact h1.lt
theorem SetI.kept {w w' : World} {b n : Nat} {m : Int → Bool} {row : Option Nat} (h : SetI w b n m) (hg : w.grownBy w' row) (hne : some b ≠ row) : SetI w' b n m := by
  obtain ⟨D, h1, h2⟩ := h
  exact ⟨D, h1.kept hg hne, h2⟩
theorem SetI.later {w w' : World} {b n : Nat} {m : Int → Bool} (h : SetI w b n m) (hb : Below w.heap.size w w') : SetI w' b n m :=
  h.kept (row := none) ⟨hb.os, hb.tape, hb.output, hb.size, fun i hi _ => hb.block i hi⟩ (by simp)
theorem SetI.congr {w : World} {b n : Nat} {m m' : Int → Bool} (h : SetI w b n m) (e : ∀ x, m x = m' x) : SetI w b n m' := by
  obtain ⟨D, h1, h2⟩ := h
  exact ⟨D, h1, fun x => by rw [← e x]; exact h2 x⟩

section
variable (w : World) {ops : Array Oper} {rest : List Oper} {o : Oper} {a : Act} {Q : Exit → Act → World → Prop} {b n : Nat} {m : Int → Bool}
/-- A number is put, whether it is there or not. -/
theorem setI_put (hg : o.guard = none) (M x v : Operand) (hop : o.op = Op.mapUpdate 66 M x v)
    (hm : a.eval M = .map (some b)) (h : SetI w b n m) (hn : n ≤ 1048576) (X : Int) (hX : IW X) (hx : a.eval x = .int .i64 X) (hv : a.eval v = .bool true)
    (hK : ∀ w', SetI w' b (n + 1) (fun x => m x || (X == x)) → w.grownBy w' (some b) → wpList Tryz.prog ops Q rest (a.put o.dst undef) w') : wpList Tryz.prog ops Q (o :: rest) a w := by
  obtain ⟨D, h1, h2⟩ := h
  have hM := h1.isMap
  refine wpList_mapUpdate_own w hg M x v 66 hop 3 4 (int_keyed Tryz.underlying3) Tryz.underlying66 (plainElem Tryz.prog 4) b n D hm h1 (by unfold maxLen; omega) _ (.bool true) (kI X) hx hv (keyOf_int_mk Tryz.underlying3 (WalkArith.wf_i64 hX)) (.lit (.bool true)) [] (plainElem_bool Tryz.underlying4 true) ?_
  intro w' hw' hgr
  refine hK w' ⟨D.put (kI X) (.lit (.bool true)), hw', fun x => ?_⟩ hgr
  by_cases e : x = X
  · subst e
    exact ⟨by rw [has_put_same hM (kI_key x)]; simp, fun _ z => atKey_put_same hM (kI_key x) _ z⟩
  · have e2 : (X == x) = false := by rw [beq_eq_false_iff_ne]; exact fun k => e k.symm
    show has _ _ = (m x || (X == x)) ∧ ((m x || (X == x)) = true → _)
    rw [e2, Bool.or_false]
    refine ⟨by rw [has_put_other (fun h => e (kI_inj h))]; exact (h2 x).1, fun hm z => ?_⟩
    rw [atKey_put_other (fun h => e (kI_inj h))]
    exact (h2 x).2 hm z
end
/-- As a run. -/
theorem SetI.put_run {w : World} {b n : Nat} {m : Int → Bool} (h : SetI w b n m) (hn : n ≤ 1048576) {X : Int} (hX : IW X) :
    ∃ w', (Instr.mapUpdate 66 (.map (some b)) (.int .i64 X) (.bool true)).run Tryz.prog w = .ok () w' ∧ SetI w' b (n + 1) (fun x => m x || (X == x)) ∧ w.grownBy w' (some b) := by
  obtain ⟨D, h1, h2⟩ := h
  have hM := h1.isMap
  obtain ⟨w', hrun, hw', hgr⟩ := h1.update (int_keyed Tryz.underlying3) Tryz.underlying66 (by unfold maxLen; omega) (keyOf_int_mk Tryz.underlying3 (WalkArith.wf_i64 hX)) (plainElem_bool (H := Unit) Tryz.underlying4 true)
  refine ⟨w', hrun, ⟨D.put (kI X) (.lit (.bool true)), hw', fun x => ?_⟩, hgr⟩
  by_cases e : x = X
  · subst e
    exact ⟨by rw [has_put_same hM (kI_key x)]; simp, fun _ z => atKey_put_same hM (kI_key x) _ z⟩
  · have e2 : (X == x) = false := by rw [beq_eq_false_iff_ne]; exact fun k => e k.symm
    show has _ _ = (m x || (X == x)) ∧ ((m x || (X == x)) = true → _)
    rw [e2, Bool.or_false]
    refine ⟨by rw [has_put_other (fun h => e (kI_inj h))]; exact (h2 x).1, fun hm z => ?_⟩
    rw [atKey_put_other (fun h => e (kI_inj h))]
    exact (h2 x).2 hm z
/-- Is a number in it? -/
theorem SetI.asked {w : World} {b n : Nat} {m : Int → Bool} (h : SetI w b n m) {X : Int} (hX : IW X) : (Instr.lookup 66 (.map (some b)) (.int .i64 X) false).run Tryz.prog w = .ok (.bool (m X)) w := by
  obtain ⟨D, h1, h2⟩ := h
  have hz : (zeroValue 4).run Tryz.prog w = .ok (.bool false) w := by kernel_rfl
  obtain ⟨v, ps, hrun, hv⟩ := h1.lookup (int_keyed Tryz.underlying3) Tryz.underlying66 hz (plainElem_bool Tryz.underlying4 false) (keyOf_int_mk Tryz.underlying3 (WalkArith.wf_i64 hX))
  obtain ⟨c, rfl, hc⟩ := plainElem_bool_inv Tryz.underlying4 hv
  have hc' : c = m X := by
    simp only [Prod.mk.injEq] at hc
    cases hm : m X with
    | true =>
      have := ((h2 X).2 hm (.lit (.bool false))).symm.trans hc.1
      simpa using this.symm
    | false =>
      have hn : has D (kI X) = false := by rw [(h2 X).1, hm]
      have := (atKey_of_not_has hn (.lit (.bool false))).symm.trans hc.1
      simpa using this.symm
  rw [hrun, hc']
theorem SetI.asked0 {w : World} {b n : Nat} {m : Int → Bool} (h : SetI w b n m) {X : Int} (hX : IW X) {v : Bool} (hv : m X = v) : (Instr.lookup 66 (.map (some b)) (.int .i64 X) false).run Tryz.prog w = .ok (.bool v) w := by
  rw [← hv]
  exact h.asked hX
theorem SetI.askedN {w : World} {b n : Nat} {m : Int → Bool} (h : SetI w b n m) {X : Int} (hX : IW X) {v : Bool} (hv : m X = v) (q : Nat) : (Instr.lookup 66 (.map (some b)) (.int .i64 X) false).run Tryz.prog (w.drewN q) = .ok (.bool v) (w.drewN q) := by
  rw [← hv]
  exact (h.later (below_drewN _ _ q)).asked hX
end Go.Proofs.YtellaeihcignaaaGreatDoor
