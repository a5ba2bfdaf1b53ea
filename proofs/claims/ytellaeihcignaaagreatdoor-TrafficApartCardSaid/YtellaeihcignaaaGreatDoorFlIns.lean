/-
  A map literal's entry; lanes that can be reached from a dock.
-/
import Derived.Test.YtellaeihcignaaaGreatDoorFlOne
import Derived.Test.YtellaeihcignaaaGreatDoorFlPlain
set_option linter.unusedVariables false
set_option maxRecDepth 100000
namespace Go.Proofs.YtellaeihcignaaaGreatDoor
open Go.RowKit Fl Go.Maps

section
variable {P : Program} (w : World) {ops : Array Oper} {rest : List Oper} {o : Oper} {a : Act} {Q : Exit → Act → World → Prop} {k : TypeId} {R : Value → Option (DataW Unit × List MemPlace)} {u : DataW Unit} {b n : Nat} {l : List Nat}
/-- A number that is not in it is put by a literal. -/
theorem set_ins (hg : o.guard = none) (m x v : Operand) (t : TypeId) (hop : o.op = Op.insert t m x v) (e : TypeId) (hk : P.underlying k = some (.int .i64)) (ht : P.underlying t = some (.map k e))
    (hm : a.eval m = .map (some b)) (h : SetOf P k R u w b n l) (hn : n ≤ 1048576) (X : Int) (y : Nat) (hX : X = y) (hy : y ≤ 1048576) (hx : a.eval x = .int .i64 X) (val : Value) (hv : a.eval v = val) (hu : R val = some (u, [])) (hnew : y ∉ l)
    (hK : ∀ w', SetOf P k R u w' b (n + 1) (l ++ [y]) → w.grownBy w' (some b) → wpList P ops Q rest (a.put o.dst undef) w') : wpList P ops Q (o :: rest) a w := by
  subst hX
  obtain ⟨D, h1, h2, h3, h4⟩ := h
  have hM := h1.isMap
  have hT := h1.tidy (int_keyed hk)
  have hD : has D (ky y) = false := by rw [h2]; exact decide_eq_false hnew
  refine wpList_plain hg fun K' hK' => ?_
  obtain ⟨w', hrun, hw', hgr⟩ := h1.update (int_keyed hk) ht (by unfold maxLen; omega) (keyOf_int_mk hk (ky_wf y hy)) hu
  unfold Oper.wp
  simp [execOp, hop, hm, hx, hv, hrun, Result.andThen]
  refine hK' _ _ (hK w' ⟨D.put (ky y) u, hw', fun x => ?_, fun x hx z => ?_, ?_⟩ hgr)
  · by_cases e : x = y
    · subst e
      rw [has_put_same hM (ky_key x) u]
      simp
    · rw [has_put_other (fun h => e (ky_inj h)) u, h2]
      simp [e]
  · by_cases e : x = y
    · subst e
      exact atKey_put_same hM (ky_key x) u z
    · rw [atKey_put_other (fun h => e (ky_inj h)) u z]
      exact h3 x (by simpa [e] using hx) z
  · rw [size_put hT u, hD, List.length_append, h4]
    rfl
end

/-- Through lanes there is a way back. -/
theorem rch_back {W H : Nat} {z : Nat → Nat} (hW : 1 ≤ W) {a : Nat} (ha : a < W * H) (hl : isL (z a) = true) {b : Nat} (h : Rch W H z a b) : b < W * H ∧ isL (z b) = true ∧ Rch W H z b a := by
  refine h (fun x => x < W * H ∧ isL (z x) = true ∧ Rch W H z x a) ⟨ha, hl, Rch.refl _ _ _ _⟩ ?_
  rintro x y ⟨hx, hlx, hr⟩ hy hly
  have hyl := side_lt hW hx hy
  exact ⟨hyl, hly, ((Rch.refl W H z y).step (side_sym hW hx hy) hlx).trans hr⟩
/-- From a dock all lanes are reached: a closed set holds them. -/
theorem all_lanes {W H : Nat} {s : ByteArray} (hS : Sides W H s) (hN : RightN W H (at_ s)) {d : Nat} (hd : d ∈ Fl.docks W H (at_ s)) (T : Nat → Prop) (h0 : T d) (hc : ∀ x y, T x → y ∈ side W H x → isL (at_ s y) = true → T y) :
    ∀ l, l ∈ pick isL (at_ s) s.size → T l := by
  intro l hl
  obtain ⟨b, hb, hbl⟩ := hN.docks.near d hd
  obtain ⟨a, r, hp, hr⟩ := hN.lanes
  have hdl : d < W * H := (mem_pick.1 hd).1
  have hblt := side_lt hS.w1 hdl hb
  have ha := mem_pick.1 (show a ∈ pick isL (at_ s) (W * H) by rw [hp]; simp)
  have hTb : T b := hc d b h0 hb hbl
  have hbm : b ∈ a :: r := by rw [← hp]; exact mem_pick.2 ⟨hblt, hbl⟩
  have hba := (rch_back hS.w1 ha.1 ha.2 (hr b hbm)).2.2
  have hlm : l ∈ a :: r := by rw [← hp, ← hS.sz]; exact hl
  exact (hba.trans (hr l hlm)) T hTb hc
end Go.Proofs.YtellaeihcignaaaGreatDoor
